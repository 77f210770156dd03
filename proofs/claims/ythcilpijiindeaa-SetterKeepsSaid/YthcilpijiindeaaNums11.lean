/-
  Lists of numbers in memory; what the best breaks are, as an answer.
-/
import Derived.Test.YthcilpijiindeaaBe11
import Derived.Test.YthcilpijiindeaaObj9
import Derived.Test.YthcilpijiindeaaLists
import Derived.Test.YthcilpijiindeaaMem9
set_option linter.unusedVariables false
set_option linter.unusedSimpArgs false
namespace Go.Proofs.Ythcilpijiindeaa
open Go.RowKit

def inC (x : Int) : List Value := [.int .i64 x]
abbrev NumsAt (w : World) (v : Value) (l : List Int) : Prop := SlcAt inC 1 w v l
abbrev OwnN (B : Nat) (v : Value) (l : List Int) (w : World) : Prop := OwnR 3 inC 1 B v l w
theorem inC_len (x : Int) : (inC x).length = 1 := rfl
theorem infoInt11 : (Try.prog.info? 3).map (fun i => (i.zero, i.size, i.bytes)) = some (some (.int .i64 0), 1, 8) := by kernel_rfl
theorem inC_cell (l : List Int) : ∀ u ∈ l.flatMap inC, u.oneCell' = true := by
  intro u hu
  obtain ⟨x, _, hx⟩ := List.mem_flatMap.1 hu
  simp [inC] at hx
  subst hx
  rfl
theorem nums_ints {w : World} {v : Value} {l : List Int} (h : NumsAt w v l) : IntsAt .i64 w v l := by
  obtain ⟨h1, h2, h3⟩ := h
  refine ⟨h1, h2, fun hp => ?_⟩
  obtain ⟨b, o, c, e, hc⟩ := h3 hp
  refine ⟨b, o, c, e, fun i s hi => ?_⟩
  have := hc i s hi 0 _ rfl
  simpa using this
theorem ints_nums {w : World} {v : Value} {l : List Int} (h : IntsAt .i64 w v l) : NumsAt w v l := by
  obtain ⟨h1, h2, h3⟩ := h
  refine ⟨h1, h2, fun hp => ?_⟩
  obtain ⟨b, o, c, e, hc⟩ := h3 hp
  refine ⟨b, o, c, e, fun i s hi j u hj => ?_⟩
  have : j = 0 ∧ u = .int .i64 s := by
    match j, hj with
    | 0, hj => simp [inC] at hj; exact ⟨rfl, hj.symm⟩
    | j + 1, hj => simp [inC] at hj
  obtain ⟨rfl, rfl⟩ := this
  have := hc i s hi
  simpa using this
def vlen : Value → Nat
  | .slice _ n _ => n
  | _ => 0
theorem own_vlen {B : Nat} {v : Value} {l : List Int} {w : World} (h : OwnN B v l w) : vlen v = l.length := by
  rcases h.2 with ⟨rfl, hn⟩ | ⟨g, cap, cu, rfl, _⟩
  · exact hn.symm
  · rfl

/-- the best breaks, if the items may be and there are some -/
def bestW (l : List It.Itm) (t tol : Int) : It.Way := if It.may l = true ∧ 0 < l.length then It.way l t tol 0 2 else none
def bz : It.Way → Int
  | none => 0
  | some x => x.1
def bl : It.Way → List Int
  | none => []
  | some x => x.2.2
def BestPost (r : It.Way) (w : World) (e : Ending) (w' : World) : Prop := ∃ u, e = .returned (.tuple #[u, .int .i64 (bz r), .bool r.isSome]) ∧ OwnN w.heap.size u (bl r) w' ∧ Below w.heap.size w w'
end Go.Proofs.Ythcilpijiindeaa
