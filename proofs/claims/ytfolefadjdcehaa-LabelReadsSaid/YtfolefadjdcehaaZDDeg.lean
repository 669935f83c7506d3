/- What maps that are answer: Degree, Rooted, Same; the document's Vertices and Borders. -/
import Derived.Test.YtfolefadjdcehaaZDPhi
import Derived.Test.YtfolefadjdcehaaZg1
import Derived.BigQuiet
namespace Go.Proofs.Ytfolefadjdcehaa
open Go.RowKit
set_option linter.unusedVariables false

/-- How many darts the vertex v has, or -1. -/
noncomputable def degOf (l : List Nat) (lone v : Int) : Int :=
  if v < 0 ∨ ((sizes l).length : Int) + lone ≤ v then -1 else if ((sizes l).length : Int) ≤ v then 0 else ((sizes l).getD v.toNat 0 : Nat)
/-! ### The document's Vertices and Borders -/
end Go.Proofs.Ytfolefadjdcehaa
