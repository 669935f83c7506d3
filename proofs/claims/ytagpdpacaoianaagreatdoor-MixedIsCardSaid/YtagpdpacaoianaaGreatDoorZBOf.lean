/- of: a vector of bits. -/
import Derived.Test.YtagpdpacaoianaaGreatDoorZg2
import Derived.Test.YtagpdpacaoianaaGreatDoorZBAdd
namespace Go.Proofs.YtagpdpacaoianaaGreatDoor
open Go.RowKit
set_option linter.unusedVariables false
/-- A vector that a call has made. -/
def NewVec (w : World) (l : List Nat) (e : Ending) (w' : World) : Prop :=
  ∃ g A, e = .returned (.pointer (some ⟨g, 0, none⟩)) ∧ VecAt w' g (val l) l.length A ∧ w.heap.size ≤ g ∧ Below w.heap.size w w'
end Go.Proofs.YtagpdpacaoianaaGreatDoor
