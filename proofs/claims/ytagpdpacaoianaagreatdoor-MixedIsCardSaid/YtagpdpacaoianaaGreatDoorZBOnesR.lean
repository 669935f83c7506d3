/- The document's count of ones. -/
import Derived.Test.YtagpdpacaoianaaGreatDoorZg2
namespace Go.Proofs.YtagpdpacaoianaaGreatDoor
open Go.RowKit
set_option linter.unusedVariables false
end Go.Proofs.YtagpdpacaoianaaGreatDoor
