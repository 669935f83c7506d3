/- made: a map of numbers, and the document's. -/
import Derived.Test.YthbhbcakiaaapaaDMade
import Derived.Laws.ResultCell
namespace Go.Proofs.Ythbhbcakiaaapaa
set_option maxRecDepth 20000
open Go.RowKit
set_option linter.unusedVariables false

theorem results_tmp_cell_row {P : Program} {fn : Func} {p u : Tmp} {ty : TypeId} (h : fn.results = #[.tmp u, .cell p ty]) (tmps : Array Value) (w : World) (g : Nat) (t : TypeId) (cs : Array Value) (fr : Nat × Nat) (d : TypeDesc)
    (hp : tmps.getD p undef = .pointer (some ⟨g, 0, none⟩)) (hg : w.heap[g]? = some (.cells cs t fr))
    (hu : P.underlying ty = some d) (hd : (match d with | .struct _ | .array _ _ => true | _ => false) = true) (hi : (P.info? ty).map (·.size) = some cs.size) :
    (results fn tmps).run P w = .ok (.tuple #[tmps.getD u undef, .agg cs]) w := by
  have hp' : tmps[p]?.getD undef = .pointer (some ⟨g, 0, none⟩) := by simpa using hp
  simp [results, h, hp', asAddr, run_loadVar_row w g t ty cs fr d hg hu hd hi, Result.andThen]
def MadePost (w : World) (k lo : Nat) (e : Ending) (w' : World) : Prop :=
  ∃ g v l b root, e = .returned (.tuple #[.pointer (some ⟨g, 0, none⟩), v]) ∧ MapAt w' g l b root (lo : Int) ∧ RMap w.heap.size w' l b root (lo : Int) v ∧ l.length = 2 * k ∧ RootOk root (2 * k) ∧ Below w.heap.size w w'
end Go.Proofs.Ythbhbcakiaaapaa
