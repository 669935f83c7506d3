/- The document's numbers of bits: Size, Num, Value. -/
import Derived.Test.YtagpdpacaoianaaGreatDoorZg6
import Derived.Test.YtagpdpacaoianaaGreatDoorZg1
namespace Go.Proofs.YtagpdpacaoianaaGreatDoor
open Go.RowKit
set_option linter.unusedVariables false

end Go.Proofs.YtagpdpacaoianaaGreatDoor
