/- The library's Equal of words. -/
import Derived.Test.YtgohdhmijfajfaaBSeqG
import Derived.Test.YtgohdhmijfajfaaInts
namespace Go.Proofs.Ytgohdhmijfajfaa
open Go.RowKit
set_option linter.unusedVariables false
end Go.Proofs.Ytgohdhmijfajfaa
