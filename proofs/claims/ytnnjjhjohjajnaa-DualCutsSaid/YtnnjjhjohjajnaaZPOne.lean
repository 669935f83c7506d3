/- One. -/
import Derived.Test.YtnnjjhjohjajnaaZPMake
namespace Go.Proofs.Ytnnjjhjohjajnaa
set_option maxRecDepth 20000
open Go.RowKit
set_option linter.unusedVariables false

/-! ### Then -/
end Go.Proofs.Ytnnjjhjohjajnaa
