/-
  DERIVED. GIVEN WITH THE SEED: THE CARDS: each row of YtagpdpacaoianaaGreatDoorRows.lean that lists a variable, with what it lists TIED to the program's text (the seventh form; the later family's looks); each row that meets fmt, with fmt's text TOLD by the authors' own Lean function (tested against real Go, not proved from fmt's source: count such statements apart). THE CARD IS WHAT COUNTS. Prove the row's statement (the work); the ties are given (YtagpdpacaoianaaGreatDoorTie.lean); close each card by the builder's one call (the guide's Derived/Test/ToyasCard.lean, 'card_holds'). Laid BY PROGRAM, IN A SANDBOX (cutbox-door.mjs). By AI agents, Wed Nov 11 2026. No macro, syntax, notation, axiom, sorry.
-/
import Derived.Test.YtagpdpacaoianaaGreatDoorRows
import GoSem.ClaimSeven
namespace Go.Proofs.YtagpdpacaoianaaGreatDoor
namespace Rows

/-- THE TIED CARD OF 'parquetrylaw04.MixedReads'. -/
def mixedReadsCard : Claim7 := { stood := { row := mixedReadsRow, standIns := [], harness := (true, "27d888ea02b17e99c74c7f31f24c5d9f865d0218fa9a214654cbec84bbe270d5"), looks := false }, kinds := [], alts := [], laidByText := true, laidKinds := [.data, .data], laidTests := true, laidLooks := .later }
def MixedReadsCardSaid : Prop := Claim7.holds Tryz.pinned (.plain (OpenSpec.ofChange mixedReadsSpec)) mixedReadsCard

/-- THE TIED CARD OF 'parquetrylaw04.MixedAdds'. -/
def mixedAddsCard : Claim7 := { stood := { row := mixedAddsRow, standIns := [], harness := (true, "27d888ea02b17e99c74c7f31f24c5d9f865d0218fa9a214654cbec84bbe270d5"), looks := false }, kinds := [], alts := [], laidByText := true, laidKinds := [.data, .data], laidTests := true, laidLooks := .later }
def MixedAddsCardSaid : Prop := Claim7.holds Tryz.pinned (.plain (OpenSpec.ofChange mixedAddsSpec)) mixedAddsCard

/-- THE TIED CARD OF 'parquetrylaw04.MixedPairs'. -/
def mixedPairsCard : Claim7 := { stood := { row := mixedPairsRow, standIns := [], harness := (true, "27d888ea02b17e99c74c7f31f24c5d9f865d0218fa9a214654cbec84bbe270d5"), looks := false }, kinds := [], alts := [], laidByText := true, laidKinds := [.data, .data], laidTests := true, laidLooks := .later }
def MixedPairsCardSaid : Prop := Claim7.holds Tryz.pinned (.plain (OpenSpec.ofChange mixedPairsSpec)) mixedPairsCard

/-- THE TIED CARD OF 'parquetrylaw04.MixedCounts'. -/
def mixedCountsCard : Claim7 := { stood := { row := mixedCountsRow, standIns := [], harness := (true, "27d888ea02b17e99c74c7f31f24c5d9f865d0218fa9a214654cbec84bbe270d5"), looks := false }, kinds := [], alts := [], laidByText := true, laidKinds := [.data, .data], laidTests := true, laidLooks := .later }
def MixedCountsCardSaid : Prop := Claim7.holds Tryz.pinned (.plain (OpenSpec.ofChange mixedCountsSpec)) mixedCountsCard

/-- THE TIED CARD OF 'parquetrylaw04.MixedIs'. -/
def mixedIsCard : Claim7 := { stood := { row := mixedIsRow, standIns := [], harness := (true, "27d888ea02b17e99c74c7f31f24c5d9f865d0218fa9a214654cbec84bbe270d5"), looks := false }, kinds := [], alts := [], laidByText := true, laidKinds := [.data, .data], laidTests := true, laidLooks := .later }
def MixedIsCardSaid : Prop := Claim7.holds Tryz.pinned (.plain (OpenSpec.ofChange mixedIsSpec)) mixedIsCard

/-- THE TIED CARD OF 'parquetrylaw04.MixedSorts'. -/
def mixedSortsCard : Claim7 := { stood := { row := mixedSortsRow, standIns := [], harness := (true, "27d888ea02b17e99c74c7f31f24c5d9f865d0218fa9a214654cbec84bbe270d5"), looks := false }, kinds := [], alts := [], laidByText := true, laidKinds := [.data, .data], laidTests := true, laidLooks := .later }
def MixedSortsCardSaid : Prop := Claim7.holds Tryz.pinned (.plain (OpenSpec.ofChange mixedSortsSpec)) mixedSortsCard

/-- THE SECOND FORM's CARD OF 'parquetrylaw04.MixedReads'. -/
def mixedReadsUptoCard : Claim7 := { stood := { row := mixedReadsUptoRow, standIns := [], harness := (true, "27d888ea02b17e99c74c7f31f24c5d9f865d0218fa9a214654cbec84bbe270d5"), looks := false }, kinds := [], alts := [], laidByText := true, laidKinds := [.data, .data], laidTests := true, laidLooks := .later }
def MixedReadsUptoCardSaid : Prop := Claim7.holds Tryz.pinned (.plain (OpenSpec.upto mixedReadsSpec)) mixedReadsUptoCard

/-- THE SECOND FORM's CARD OF 'parquetrylaw04.MixedAdds'. -/
def mixedAddsUptoCard : Claim7 := { stood := { row := mixedAddsUptoRow, standIns := [], harness := (true, "27d888ea02b17e99c74c7f31f24c5d9f865d0218fa9a214654cbec84bbe270d5"), looks := false }, kinds := [], alts := [], laidByText := true, laidKinds := [.data, .data], laidTests := true, laidLooks := .later }
def MixedAddsUptoCardSaid : Prop := Claim7.holds Tryz.pinned (.plain (OpenSpec.upto mixedAddsSpec)) mixedAddsUptoCard

/-- THE SECOND FORM's CARD OF 'parquetrylaw04.MixedPairs'. -/
def mixedPairsUptoCard : Claim7 := { stood := { row := mixedPairsUptoRow, standIns := [], harness := (true, "27d888ea02b17e99c74c7f31f24c5d9f865d0218fa9a214654cbec84bbe270d5"), looks := false }, kinds := [], alts := [], laidByText := true, laidKinds := [.data, .data], laidTests := true, laidLooks := .later }
def MixedPairsUptoCardSaid : Prop := Claim7.holds Tryz.pinned (.plain (OpenSpec.upto mixedPairsSpec)) mixedPairsUptoCard

/-- THE SECOND FORM's CARD OF 'parquetrylaw04.MixedCounts'. -/
def mixedCountsUptoCard : Claim7 := { stood := { row := mixedCountsUptoRow, standIns := [], harness := (true, "27d888ea02b17e99c74c7f31f24c5d9f865d0218fa9a214654cbec84bbe270d5"), looks := false }, kinds := [], alts := [], laidByText := true, laidKinds := [.data, .data], laidTests := true, laidLooks := .later }
def MixedCountsUptoCardSaid : Prop := Claim7.holds Tryz.pinned (.plain (OpenSpec.upto mixedCountsSpec)) mixedCountsUptoCard

/-- THE SECOND FORM's CARD OF 'parquetrylaw04.MixedIs'. -/
def mixedIsUptoCard : Claim7 := { stood := { row := mixedIsUptoRow, standIns := [], harness := (true, "27d888ea02b17e99c74c7f31f24c5d9f865d0218fa9a214654cbec84bbe270d5"), looks := false }, kinds := [], alts := [], laidByText := true, laidKinds := [.data, .data], laidTests := true, laidLooks := .later }
def MixedIsUptoCardSaid : Prop := Claim7.holds Tryz.pinned (.plain (OpenSpec.upto mixedIsSpec)) mixedIsUptoCard

/-- THE SECOND FORM's CARD OF 'parquetrylaw04.MixedSorts'. -/
def mixedSortsUptoCard : Claim7 := { stood := { row := mixedSortsUptoRow, standIns := [], harness := (true, "27d888ea02b17e99c74c7f31f24c5d9f865d0218fa9a214654cbec84bbe270d5"), looks := false }, kinds := [], alts := [], laidByText := true, laidKinds := [.data, .data], laidTests := true, laidLooks := .later }
def MixedSortsUptoCardSaid : Prop := Claim7.holds Tryz.pinned (.plain (OpenSpec.upto mixedSortsSpec)) mixedSortsUptoCard
end Rows
end Go.Proofs.YtagpdpacaoianaaGreatDoor
