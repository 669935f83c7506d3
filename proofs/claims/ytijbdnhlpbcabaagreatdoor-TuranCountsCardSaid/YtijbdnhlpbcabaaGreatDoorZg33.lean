/- canon's walk of a part. -/
import Derived.Test.YtijbdnhlpbcabaaGreatDoorZg32
import Derived.Test.YtijbdnhlpbcabaaGreatDoorZg24
import Derived.Test.YtijbdnhlpbcabaaGreatDoorZg27
open Go.RowKit
set_option linter.unusedVariables false
set_option linter.unusedSimpArgs false
namespace Go.Proofs.YtijbdnhlpbcabaaGreatDoor
set_option maxRecDepth 100000



end Go.Proofs.YtijbdnhlpbcabaaGreatDoor
