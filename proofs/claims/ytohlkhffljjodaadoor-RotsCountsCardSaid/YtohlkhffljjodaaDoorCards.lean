/-
  DERIVED. GIVEN WITH THE SEED: THE CARDS: each row of YtohlkhffljjodaaDoorRows.lean that lists a variable, with what it lists TIED to the program's text (the seventh form; the later family's looks); each row that meets fmt, with fmt's text TOLD by the authors' own Lean function (tested against real Go, not proved from fmt's source: count such statements apart). THE CARD IS WHAT COUNTS. Prove the row's statement (the work); the ties are given (YtohlkhffljjodaaDoorTie.lean); close each card by the builder's one call (the guide's Derived/Test/ToyasCard.lean, 'card_holds'). Laid BY PROGRAM, IN A SANDBOX (cutbox-door.mjs). By AI agents, Wed Nov 11 2026. No macro, syntax, notation, axiom, sorry.
-/
import Derived.Test.YtohlkhffljjodaaDoorRows
import GoSem.ClaimSeven
namespace Go.Proofs.YtohlkhffljjodaaDoor
namespace Rows

/-- THE TIED CARD OF 'parquetrylaw07.RotsPrints'. -/
def rotsPrintsCard : Claim7 := { stood := { row := rotsPrintsRow, standIns := [], harness := (true, "82611c74000041a74b8711c3f9b6924b1730a24dad60393cb6d709fcd65f1cb7"), looks := false }, kinds := [], alts := [], laidByText := true, laidKinds := [.data, .data, .data, .data, .pinned], laidTests := true, laidLooks := .later }
def RotsPrintsCardSaid : Prop := Claim7.holds Tryd.pinned (.plain (OpenSpec.ofChange rotsPrintsSpec)) rotsPrintsCard

/-- THE TIED CARD OF 'parquetrylaw07.RotsTurned'. -/
def rotsTurnedCard : Claim7 := { stood := { row := rotsTurnedRow, standIns := [], harness := (true, "82611c74000041a74b8711c3f9b6924b1730a24dad60393cb6d709fcd65f1cb7"), looks := false }, kinds := [], alts := [], laidByText := true, laidKinds := [.data, .data, .data, .data, .pinned], laidTests := true, laidLooks := .later }
def RotsTurnedCardSaid : Prop := Claim7.holds Tryd.pinned (.plain (OpenSpec.ofChange rotsTurnedSpec)) rotsTurnedCard

/-- THE TIED CARD OF 'parquetrylaw07.RotsNil'. -/
def rotsNilCard : Claim7 := { stood := { row := rotsNilRow, standIns := [], harness := (true, "82611c74000041a74b8711c3f9b6924b1730a24dad60393cb6d709fcd65f1cb7"), looks := false }, kinds := [], alts := [], laidByText := true, laidKinds := [.data, .data, .data, .data, .pinned], laidTests := true, laidLooks := .later }
def RotsNilCardSaid : Prop := Claim7.holds Tryd.pinned (.plain (OpenSpec.ofChange rotsNilSpec)) rotsNilCard

/-- THE TIED CARD OF 'parquetrylaw07.RotsCounts'. -/
def rotsCountsCard : Claim7 := { stood := { row := rotsCountsRow, standIns := [], harness := (true, "82611c74000041a74b8711c3f9b6924b1730a24dad60393cb6d709fcd65f1cb7"), looks := false }, kinds := [], alts := [], laidByText := true, laidKinds := [.data, .data, .data, .data, .pinned], laidTests := true, laidLooks := .later }
def RotsCountsCardSaid : Prop := Claim7.holds Tryd.pinned (.plain (OpenSpec.ofChange rotsCountsSpec)) rotsCountsCard

/-- THE SECOND FORM's CARD OF 'parquetrylaw07.RotsPrints'. -/
def rotsPrintsUptoCard : Claim7 := { stood := { row := rotsPrintsUptoRow, standIns := [], harness := (true, "82611c74000041a74b8711c3f9b6924b1730a24dad60393cb6d709fcd65f1cb7"), looks := false }, kinds := [], alts := [], laidByText := true, laidKinds := [.data, .data, .data, .data, .pinned], laidTests := true, laidLooks := .later }
def RotsPrintsUptoCardSaid : Prop := Claim7.holds Tryd.pinned (.plain (OpenSpec.upto rotsPrintsSpec)) rotsPrintsUptoCard

/-- THE SECOND FORM's CARD OF 'parquetrylaw07.RotsTurned'. -/
def rotsTurnedUptoCard : Claim7 := { stood := { row := rotsTurnedUptoRow, standIns := [], harness := (true, "82611c74000041a74b8711c3f9b6924b1730a24dad60393cb6d709fcd65f1cb7"), looks := false }, kinds := [], alts := [], laidByText := true, laidKinds := [.data, .data, .data, .data, .pinned], laidTests := true, laidLooks := .later }
def RotsTurnedUptoCardSaid : Prop := Claim7.holds Tryd.pinned (.plain (OpenSpec.upto rotsTurnedSpec)) rotsTurnedUptoCard

/-- THE SECOND FORM's CARD OF 'parquetrylaw07.RotsNil'. -/
def rotsNilUptoCard : Claim7 := { stood := { row := rotsNilUptoRow, standIns := [], harness := (true, "82611c74000041a74b8711c3f9b6924b1730a24dad60393cb6d709fcd65f1cb7"), looks := false }, kinds := [], alts := [], laidByText := true, laidKinds := [.data, .data, .data, .data, .pinned], laidTests := true, laidLooks := .later }
def RotsNilUptoCardSaid : Prop := Claim7.holds Tryd.pinned (.plain (OpenSpec.upto rotsNilSpec)) rotsNilUptoCard

/-- THE SECOND FORM's CARD OF 'parquetrylaw07.RotsCounts'. -/
def rotsCountsUptoCard : Claim7 := { stood := { row := rotsCountsUptoRow, standIns := [], harness := (true, "82611c74000041a74b8711c3f9b6924b1730a24dad60393cb6d709fcd65f1cb7"), looks := false }, kinds := [], alts := [], laidByText := true, laidKinds := [.data, .data, .data, .data, .pinned], laidTests := true, laidLooks := .later }
def RotsCountsUptoCardSaid : Prop := Claim7.holds Tryd.pinned (.plain (OpenSpec.upto rotsCountsSpec)) rotsCountsUptoCard
end Rows
end Go.Proofs.YtohlkhffljjodaaDoor
