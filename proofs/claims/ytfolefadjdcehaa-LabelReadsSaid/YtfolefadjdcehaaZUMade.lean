/- made: a map of numbers, and the document's (layer 10). -/
import Derived.Test.YtfolefadjdcehaaZDPhi
namespace Go.Proofs.Ytfolefadjdcehaa
set_option maxRecDepth 20000
open Go.RowKit
set_option linter.unusedVariables false
end Go.Proofs.Ytfolefadjdcehaa
