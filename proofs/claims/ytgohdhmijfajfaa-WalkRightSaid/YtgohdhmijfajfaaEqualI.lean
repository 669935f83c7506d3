/- The library's Equal of ints. -/
import Derived.Test.YtgohdhmijfajfaaInts
namespace Go.Proofs.Ytgohdhmijfajfaa
open Go.RowKit
set_option linter.unusedVariables false

end Go.Proofs.Ytgohdhmijfajfaa
