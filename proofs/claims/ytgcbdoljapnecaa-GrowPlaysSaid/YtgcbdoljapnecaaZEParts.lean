/- euler.Parts. -/
import Derived.Test.YtgcbdoljapnecaaZERow5
namespace Go.Proofs.Ytgcbdoljapnecaa
set_option maxRecDepth 20000
open Go.RowKit
set_option linter.unusedVariables false
section
variable {l : List Nat} {W : World} {base g3 p c k q : Nat}
end
end Go.Proofs.Ytgcbdoljapnecaa
