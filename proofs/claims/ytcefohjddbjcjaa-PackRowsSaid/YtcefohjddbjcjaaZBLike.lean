/- like: a vector has just these bits. -/
import Derived.Test.YtcefohjddbjcjaaZBRefB
import Derived.Test.YtcefohjddbjcjaaZg6
namespace Go.Proofs.Ytcefohjddbjcjaa
open Go.RowKit
set_option linter.unusedVariables false

theorem Bin.sum_le {l : List Nat} (h : Bin l) : l.sum ≤ l.length := by
  have := Go.Proofs.Ytcefohjddbjcjaa.sum_le h l.length
  rwa [List.take_of_length_le (Nat.le_refl _)] at this
theorem val_div_bit {l : List Nat} (h : Bin l) (i : Nat) : val l / 2 ^ i % 2 = l.getD i 0 := val_bit h i
end Go.Proofs.Ytcefohjddbjcjaa
