/- Rows of integers that come in to a statement. -/
import Derived.Test.YtgcbdoljapnecaaZg6
namespace Go.Proofs.Ytgcbdoljapnecaa
open Go.RowKit

end Go.Proofs.Ytgcbdoljapnecaa
