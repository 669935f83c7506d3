/- The document's mates, by a stack. -/
import Derived.Test.YtijbdnhlpbcabaaGreatDoorZg13
import Derived.Test.YtijbdnhlpbcabaaGreatDoorZg14
import Derived.Test.YtijbdnhlpbcabaaGreatDoorZg18
import Derived.BigQuiet
open Go.RowKit
set_option linter.unusedVariables false
namespace Go.Proofs.YtijbdnhlpbcabaaGreatDoor
set_option maxRecDepth 20000


set_option maxRecDepth 100000
end Go.Proofs.YtijbdnhlpbcabaaGreatDoor
