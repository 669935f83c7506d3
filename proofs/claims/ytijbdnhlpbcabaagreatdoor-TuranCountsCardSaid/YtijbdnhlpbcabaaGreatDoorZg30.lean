/- The document's words of numbers, balanced in both sorts. -/
import Derived.Test.YtijbdnhlpbcabaaGreatDoorZg14
import Derived.Test.YtijbdnhlpbcabaaGreatDoorZg6
import Derived.Test.YtijbdnhlpbcabaaGreatDoorZg29
import Derived.BigQuiet
import Derived.Test.YtijbdnhlpbcabaaGreatDoorZg3
import Derived.Test.YtijbdnhlpbcabaaGreatDoorZg17
open Go.RowKit
set_option linter.unusedVariables false
namespace Go.Proofs.YtijbdnhlpbcabaaGreatDoor
set_option maxRecDepth 20000

set_option maxRecDepth 100000
end Go.Proofs.YtijbdnhlpbcabaaGreatDoor
