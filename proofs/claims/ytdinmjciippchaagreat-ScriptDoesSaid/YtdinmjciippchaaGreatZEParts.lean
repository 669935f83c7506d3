/- euler.Parts. -/
import Derived.Test.YtdinmjciippchaaGreatZg5
open Go.RowKit
set_option linter.unusedVariables false
namespace Go.Proofs.YtdinmjciippchaaGreat
set_option maxRecDepth 20000
theorem map_rangeN (f:Nat→Nat) (n i:Nat) (h:i < n):((List.range n).map f).getD i 0=f i:=by simp [List.getD_eq_getElem?_getD,List.getElem?_range h]
section
variable {l:List Nat} {W:World} {base g3 p c k q:Nat}
end
end Go.Proofs.YtdinmjciippchaaGreat
