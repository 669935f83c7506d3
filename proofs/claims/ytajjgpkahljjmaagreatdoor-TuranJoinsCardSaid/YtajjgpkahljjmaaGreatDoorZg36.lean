/- A map without an edge: what stands beside it, the root's heir. A map without an edge. A map without an edge: mathematics. Cut and Shrink of any map. -/
import Derived.Test.YtajjgpkahljjmaaGreatDoorZg27
import Derived.Test.YtajjgpkahljjmaaGreatDoorZg2
import Derived.Test.YtajjgpkahljjmaaGreatDoorZg15
open Go.RowKit
set_option linter.unusedVariables false
namespace Go.Proofs.YtajjgpkahljjmaaGreatDoor
set_option maxRecDepth 20000
end Go.Proofs.YtajjgpkahljjmaaGreatDoor
namespace Go.Proofs.YtajjgpkahljjmaaGreatDoor
set_option maxRecDepth 20000
section
variable {l b:List Nat}
end
end Go.Proofs.YtajjgpkahljjmaaGreatDoor
namespace Go.Proofs.YtajjgpkahljjmaaGreatDoor
set_option maxRecDepth 20000
section
variable {l b z:List Nat}
end
end Go.Proofs.YtajjgpkahljjmaaGreatDoor
namespace Go.Proofs.YtajjgpkahljjmaaGreatDoor
set_option maxRecDepth 20000
end Go.Proofs.YtajjgpkahljjmaaGreatDoor
namespace Go.Proofs.YtajjgpkahljjmaaGreatDoor
set_option maxRecDepth 20000
section
variable {l b:List Nat}
end
end Go.Proofs.YtajjgpkahljjmaaGreatDoor
