/- The document's example of bits. -/
import Derived.Test.YtagpdpacaoianaaGreatDoorZg6
namespace Go.Proofs.YtagpdpacaoianaaGreatDoor
open Go.RowKit
set_option linter.unusedVariables false

theorem awake_text : textOf (numL 6 4) = ⟨#[48, 49, 49, 48]⟩ := by decide +kernel
end Go.Proofs.YtagpdpacaoianaaGreatDoor
