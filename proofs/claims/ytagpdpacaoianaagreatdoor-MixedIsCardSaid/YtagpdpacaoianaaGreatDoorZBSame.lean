/- Same. -/
import Derived.Test.YtagpdpacaoianaaGreatDoorZg6
import Derived.Deep.QuietTactic
import Derived.BigQuiet
import Derived.Test.YtagpdpacaoianaaGreatDoorZg2
namespace Go.Proofs.YtagpdpacaoianaaGreatDoor
open Go.RowKit
set_option linter.unusedVariables false
end Go.Proofs.YtagpdpacaoianaaGreatDoor
