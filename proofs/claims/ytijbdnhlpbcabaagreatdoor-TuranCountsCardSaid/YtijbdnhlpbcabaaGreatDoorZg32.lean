/- The parts of a map, side by side: memory and mathematics. -/
import Derived.Test.YtijbdnhlpbcabaaGreatDoorZg31
import Derived.Test.YtijbdnhlpbcabaaGreatDoorZEPartsW
import Derived.Test.YtijbdnhlpbcabaaGreatDoorZg23
import Derived.Deep.CutRange
import Derived.Test.YtijbdnhlpbcabaaGreatDoorZg2
import Derived.Deep.DeepCutAuto
import Derived.Deep.RegionHeld3
import Derived.Test.YtijbdnhlpbcabaaGreatDoorZg19
import Derived.Test.YtijbdnhlpbcabaaGreatDoorZg20
open Go.RowKit
set_option linter.unusedVariables false
set_option linter.unusedSimpArgs false
namespace Go.Proofs.YtijbdnhlpbcabaaGreatDoor
set_option maxRecDepth 100000
section
variable {w w':World} {base c:Nat} {A:Option Addr} {ps:List PEl}
end
end Go.Proofs.YtijbdnhlpbcabaaGreatDoor
namespace Go.Proofs.YtijbdnhlpbcabaaGreatDoor
set_option maxRecDepth 100000
section
variable {l b:List Nat} {k:Nat} {ps:List PEl}
end
end Go.Proofs.YtijbdnhlpbcabaaGreatDoor
namespace Go.Proofs.YtijbdnhlpbcabaaGreatDoor
set_option maxRecDepth 20000
section
variable {l b D pl:List Nat} {r:Nat}
end
end Go.Proofs.YtijbdnhlpbcabaaGreatDoor
namespace Go.Proofs.YtijbdnhlpbcabaaGreatDoor
set_option maxRecDepth 100000
set_option maxRecDepth 20000
end Go.Proofs.YtijbdnhlpbcabaaGreatDoor
