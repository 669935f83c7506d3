/-
  DERIVED. GIVEN WITH THE SEED: THE CARDS: each row of YtdpejjokdncfnaaDoorRows.lean that lists a variable, with what it lists TIED to the program's text (the seventh form; the later family's looks); each row that meets fmt, with fmt's text TOLD by the authors' own Lean function (tested against real Go, not proved from fmt's source: count such statements apart). THE CARD IS WHAT COUNTS. Prove the row's statement (the work); the ties are given (YtdpejjokdncfnaaDoorTie.lean); close each card by the builder's one call (the guide's Derived/Test/ToyasCard.lean, 'card_holds'). Laid BY PROGRAM, IN A SANDBOX (cutbox-door.mjs). By AI agents, Wed Nov 11 2026. No macro, syntax, notation, axiom, sorry.
-/
import Derived.Test.YtdpejjokdncfnaaDoorRows
import GoSem.ClaimSeven
namespace Go.Proofs.YtdpejjokdncfnaaDoor
namespace Rows

/-- THE TIED CARD OF 'parquetrylaw03.ParenIs'. -/
def parenIsCard : Claim7 := { stood := { row := parenIsRow, standIns := [], harness := (true, "83b7be396532d4d3a13d7065e5e8b85b66da25358514b2c795a8de90c507a64f"), looks := false }, kinds := [], alts := [], laidByText := true, laidKinds := [.data], laidTests := true, laidLooks := .later }
def ParenIsCardSaid : Prop := Claim7.holds Tryd.pinned (.plain (OpenSpec.ofChange parenIsSpec)) parenIsCard

/-- THE TIED CARD OF 'parquetrylaw03.ParenPairs'. -/
def parenPairsCard : Claim7 := { stood := { row := parenPairsRow, standIns := [], harness := (true, "83b7be396532d4d3a13d7065e5e8b85b66da25358514b2c795a8de90c507a64f"), looks := false }, kinds := [], alts := [], laidByText := true, laidKinds := [.data], laidTests := true, laidLooks := .later }
def ParenPairsCardSaid : Prop := Claim7.holds Tryd.pinned (.plain (OpenSpec.ofChange parenPairsSpec)) parenPairsCard

/-- THE TIED CARD OF 'parquetrylaw03.ParenLows'. -/
def parenLowsCard : Claim7 := { stood := { row := parenLowsRow, standIns := [], harness := (true, "83b7be396532d4d3a13d7065e5e8b85b66da25358514b2c795a8de90c507a64f"), looks := false }, kinds := [], alts := [], laidByText := true, laidKinds := [.data], laidTests := true, laidLooks := .later }
def ParenLowsCardSaid : Prop := Claim7.holds Tryd.pinned (.plain (OpenSpec.ofChange parenLowsSpec)) parenLowsCard

/-- THE TIED CARD OF 'parquetrylaw03.ParenOnce'. -/
def parenOnceCard : Claim7 := { stood := { row := parenOnceRow, standIns := [], harness := (true, "83b7be396532d4d3a13d7065e5e8b85b66da25358514b2c795a8de90c507a64f"), looks := false }, kinds := [], alts := [], laidByText := true, laidKinds := [.data], laidTests := true, laidLooks := .later }
def ParenOnceCardSaid : Prop := Claim7.holds Tryd.pinned (.plain (OpenSpec.ofChange parenOnceSpec)) parenOnceCard

/-- THE TIED CARD OF 'parquetrylaw03.ParenJoins'. -/
def parenJoinsCard : Claim7 := { stood := { row := parenJoinsRow, standIns := [], harness := (true, "83b7be396532d4d3a13d7065e5e8b85b66da25358514b2c795a8de90c507a64f"), looks := false }, kinds := [], alts := [], laidByText := true, laidKinds := [.data], laidTests := true, laidLooks := .later }
def ParenJoinsCardSaid : Prop := Claim7.holds Tryd.pinned (.plain (OpenSpec.ofChange parenJoinsSpec)) parenJoinsCard

/-- THE SECOND FORM's CARD OF 'parquetrylaw03.ParenIs'. -/
def parenIsUptoCard : Claim7 := { stood := { row := parenIsUptoRow, standIns := [], harness := (true, "83b7be396532d4d3a13d7065e5e8b85b66da25358514b2c795a8de90c507a64f"), looks := false }, kinds := [], alts := [], laidByText := true, laidKinds := [.data], laidTests := true, laidLooks := .later }
def ParenIsUptoCardSaid : Prop := Claim7.holds Tryd.pinned (.plain (OpenSpec.upto parenIsSpec)) parenIsUptoCard

/-- THE SECOND FORM's CARD OF 'parquetrylaw03.ParenPairs'. -/
def parenPairsUptoCard : Claim7 := { stood := { row := parenPairsUptoRow, standIns := [], harness := (true, "83b7be396532d4d3a13d7065e5e8b85b66da25358514b2c795a8de90c507a64f"), looks := false }, kinds := [], alts := [], laidByText := true, laidKinds := [.data], laidTests := true, laidLooks := .later }
def ParenPairsUptoCardSaid : Prop := Claim7.holds Tryd.pinned (.plain (OpenSpec.upto parenPairsSpec)) parenPairsUptoCard

/-- THE SECOND FORM's CARD OF 'parquetrylaw03.ParenLows'. -/
def parenLowsUptoCard : Claim7 := { stood := { row := parenLowsUptoRow, standIns := [], harness := (true, "83b7be396532d4d3a13d7065e5e8b85b66da25358514b2c795a8de90c507a64f"), looks := false }, kinds := [], alts := [], laidByText := true, laidKinds := [.data], laidTests := true, laidLooks := .later }
def ParenLowsUptoCardSaid : Prop := Claim7.holds Tryd.pinned (.plain (OpenSpec.upto parenLowsSpec)) parenLowsUptoCard

/-- THE SECOND FORM's CARD OF 'parquetrylaw03.ParenOnce'. -/
def parenOnceUptoCard : Claim7 := { stood := { row := parenOnceUptoRow, standIns := [], harness := (true, "83b7be396532d4d3a13d7065e5e8b85b66da25358514b2c795a8de90c507a64f"), looks := false }, kinds := [], alts := [], laidByText := true, laidKinds := [.data], laidTests := true, laidLooks := .later }
def ParenOnceUptoCardSaid : Prop := Claim7.holds Tryd.pinned (.plain (OpenSpec.upto parenOnceSpec)) parenOnceUptoCard

/-- THE SECOND FORM's CARD OF 'parquetrylaw03.ParenJoins'. -/
def parenJoinsUptoCard : Claim7 := { stood := { row := parenJoinsUptoRow, standIns := [], harness := (true, "83b7be396532d4d3a13d7065e5e8b85b66da25358514b2c795a8de90c507a64f"), looks := false }, kinds := [], alts := [], laidByText := true, laidKinds := [.data], laidTests := true, laidLooks := .later }
def ParenJoinsUptoCardSaid : Prop := Claim7.holds Tryd.pinned (.plain (OpenSpec.upto parenJoinsSpec)) parenJoinsUptoCard
end Rows
end Go.Proofs.YtdpejjokdncfnaaDoor
