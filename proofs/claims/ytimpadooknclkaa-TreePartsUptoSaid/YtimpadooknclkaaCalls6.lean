/-
  What is asked of the program's package tree: the contracts of its six calls, as one statement (proved of the landed code elsewhere); and tokens that a statement lays itself.
-/
import Derived.Test.YtimpadooknclkaaRefParse6
import Derived.Test.YtimpadooknclkaaRefSame6
import Derived.Test.YtimpadooknclkaaFltEq
import Derived.Test.YtimpadooknclkaaStk6
set_option linter.unusedVariables false
set_option linter.unusedSimpArgs false
namespace Go.Proofs.Ytimpadooknclkaa
open Go.RowKit

/-- what a parse that fails answers: no nodes, and the fault -/
def FailedPost (c a : Int) (w : World) (e : Ending) (w' : World) : Prop := ∃ v K, e = .returned (.tuple #[v, flt c a]) ∧ NodesAt w' K v [] ∧ Below w.heap.size w w'
/-- nodes none of whose blocks bears a frozen cell -/
structure NodesC (w : World) (K : Nat → Prop) (v : Value) (l : List Nd) : Prop where
  nodes : NodesAt w K v l
  clear : ∀ b, K b → Clear w b
theorem NodesC.mono {w w' : World} {K : Nat → Prop} {v : Value} {l : List Nd} (h : NodesC w K v l) (hb : Below w.heap.size w w') : NodesC w' K v l := ⟨h.1.mono hb, fun b k => (h.2 b k).mono hb⟩
theorem NodesC.set {w : World} {K : Nat → Prop} {v : Value} {l : List Nd} (h : NodesC w K v l) (p i : Nat) (x : Value) (hs : ∀ b, Stays w (w.setCell ⟨p, i, none⟩ x) b) : NodesC (w.setCell ⟨p, i, none⟩ x) K v l := ⟨h.1.move (fun b _ => hs b) (fun _ h => h), fun b k => (h.2 b k).set p i x⟩
/-- what the two laws over tokens ask of the program's calls -/
structure TreeC : Prop where
  yesC : ∀ (v : Value) (ts : List Tok) (ns : List Nd) (w : World), ts.length ≤ 1073741824 → Tr.G 0 (Tr.reals ts) ns → ToksAt w v ts → Calls Try.prog 7 #[v] w (fun e w' => ∃ v' K, e = .returned (.tuple #[v', flt 0 0]) ∧ NodesC w' K v' ns ∧ Below w.heap.size w w')
  no : ∀ (v : Value) (ts : List Tok) (w : World), ts.length ≤ 1073741824 → Tr.code ts ≠ 0 → ToksAt w v ts → Calls Try.prog 7 #[v] w (FailedPost (Tr.code ts) (Tr.place ts) w)
  depth : ∀ (v : Value) (l : List Nd) (K : Nat → Prop) (w : World), Tr.sizeL l ≤ 1073741824 → NodesC w K v l → Calls Try.prog 18 #[v] w (Ret (.int .i64 (Tr.deep l 101 : Int)) w)
  words : ∀ (v : Value) (l : List Nd) (K : Nat → Prop) (w : World), Tr.sizeL l ≤ 1073741824 → NodesAt w K v l → Calls Try.prog 17 #[v] w (fun e w' => ∃ v', e = .returned v' ∧ StrsAt w' v' (Tr.words l) ∧ Below w.heap.size w w')
theorem TreeC.yes (C : TreeC) (v : Value) (ts : List Tok) (ns : List Nd) (w : World) (hn : ts.length ≤ 1073741824) (hG : Tr.G 0 (Tr.reals ts) ns) (h : ToksAt w v ts) : Calls Try.prog 7 #[v] w (ParsedPost ns w) :=
  (C.yesC v ts ns w hn hG h).mono fun _ _ ⟨v', K, h1, h2, h3⟩ => ⟨v', K, h1, h2.1, h3⟩

theorem toks_new (w : World) (ts : List Tok) (T : TypeId) (hn : ts.length ≤ maxLen) : ToksAt (w.alloc (.cells (allCells ts).toArray T)) (.slice (some ⟨w.heap.size, 0, none⟩) ts.length ts.length) ts := by
  refine ⟨⟨_, _, rfl, Nat.le_refl _⟩, hn, fun _ => ⟨_, 0, _, rfl, fun i t ht => ?_⟩⟩
  obtain ⟨a1, a2, a3⟩ := allCells_at ts i t ht
  have e1 : (0 + i * 3) + 1 = i * 3 + 1 := by omega
  have e2 : (0 + i * 3) + 2 = i * 3 + 2 := by omega
  exact ⟨by rw [Nat.zero_add]; simpa using a1, by rw [e1]; simpa using a2, by rw [e2]; simpa using a3⟩
theorem strs_new (w : World) (ns : List (List UInt8)) (T : TypeId) (hn : ns.length ≤ maxLen) : StrsAt (w.alloc (.cells (ns.map fun s => Value.string (str s)).toArray T)) (.slice (some ⟨w.heap.size, 0, none⟩) ns.length ns.length) ns := by
  refine ⟨⟨_, _, rfl, Nat.le_refl _⟩, hn, fun _ => ⟨_, 0, _, rfl, fun i t ht => ?_⟩⟩
  rw [Nat.zero_add]
  simp [ht]

set_option maxHeartbeats 1000000 in
set_option maxRecDepth 100000 in
theorem word6 (s : ByteArray) (w : World) : Calls Try.prog 26 #[.string s] w (Ret (.agg #[.int .i64 0, .string s, .int .i64 0]) w) := by
  have HB := Lib.hid (below_alloc w (.cells #[.int .i64 0, .string ⟨#[]⟩, .int .i64 0] 36))
  go_enter Try.func26, Try.ntmps26
  go_wp2
  exact bodyPost_ret (v := .agg #[.int .i64 0, .string s, .int .i64 0]) (by simp [results, Try.results26, go_sem]) rfl ⟨rfl, by first | exact below_alloc _ _ | exact ((HB.out.setCell (Nat.le_refl _) _).setCell (Nat.le_refl _) _).setCell (Nat.le_refl _) _⟩
set_option maxHeartbeats 1000000 in
set_option maxRecDepth 100000 in
theorem command6 (s : ByteArray) (w : World) : Calls Try.prog 25 #[.string s] w (Ret (.agg #[.int .i64 1, .string s, .int .i64 0]) w) := by
  have HB := Lib.hid (below_alloc w (.cells #[.int .i64 0, .string ⟨#[]⟩, .int .i64 0] 36))
  go_enter Try.func25, Try.ntmps25
  go_wp2
  exact bodyPost_ret (v := .agg #[.int .i64 1, .string s, .int .i64 0]) (by simp [results, Try.results25, go_sem]) rfl ⟨rfl, by first | exact below_alloc _ _ | exact ((HB.out.setCell (Nat.le_refl _) _).setCell (Nat.le_refl _) _).setCell (Nat.le_refl _) _⟩
end Go.Proofs.Ytimpadooknclkaa
