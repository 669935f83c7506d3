/-
  DERIVED. GIVEN WITH THE SEED: THE CARDS: each row of YtijbdnhlpbcabaaGreatDoorRows.lean that lists a variable, with what it lists TIED to the program's text (the seventh form; the later family's looks); each row that meets fmt, with fmt's text TOLD by the authors' own Lean function (tested against real Go, not proved from fmt's source: count such statements apart). THE CARD IS WHAT COUNTS. Prove the row's statement (the work); the ties are given (YtijbdnhlpbcabaaGreatDoorTie.lean); close each card by the builder's one call (the guide's Derived/Test/ToyasCard.lean, 'card_holds'). Laid BY PROGRAM, IN A SANDBOX (cutbox-door.mjs). By AI agents, Wed Nov 11 2026. No macro, syntax, notation, axiom, sorry.
-/
import Derived.Test.YtijbdnhlpbcabaaGreatDoorRows
import GoSem.ClaimSeven
namespace Go.Proofs.YtijbdnhlpbcabaaGreatDoor
namespace Rows

/-- THE TIED CARD OF 'parquetrylaw12.TuranCodes'. -/
def turanCodesCard : Claim7 := { stood := { row := turanCodesRow, standIns := [], harness := (true, "cc2378913da44f4ae3230ae991672ec15e26030f9f32ac0152a7ccd52c6b8b36"), looks := false }, kinds := [], alts := [], laidByText := true, laidKinds := [.data, .data], laidTests := true, laidLooks := .later }
def TuranCodesCardSaid : Prop := Claim7.holds Tryz.pinned (.plain (OpenSpec.ofChange turanCodesSpec)) turanCodesCard

/-- THE TIED CARD OF 'parquetrylaw12.TuranWords'. -/
def turanWordsCard : Claim7 := { stood := { row := turanWordsRow, standIns := [], harness := (true, "cc2378913da44f4ae3230ae991672ec15e26030f9f32ac0152a7ccd52c6b8b36"), looks := false }, kinds := [], alts := [], laidByText := true, laidKinds := [.data, .data], laidTests := true, laidLooks := .later }
def TuranWordsCardSaid : Prop := Claim7.holds Tryz.pinned (.plain (OpenSpec.ofChange turanWordsSpec)) turanWordsCard

/-- THE TIED CARD OF 'parquetrylaw12.TuranNames'. -/
def turanNamesCard : Claim7 := { stood := { row := turanNamesRow, standIns := [], harness := (true, "cc2378913da44f4ae3230ae991672ec15e26030f9f32ac0152a7ccd52c6b8b36"), looks := false }, kinds := [], alts := [], laidByText := true, laidKinds := [.data, .data], laidTests := true, laidLooks := .later }
def TuranNamesCardSaid : Prop := Claim7.holds Tryz.pinned (.plain (OpenSpec.ofChange turanNamesSpec)) turanNamesCard

/-- THE TIED CARD OF 'parquetrylaw12.TuranCounts'. -/
def turanCountsCard : Claim7 := { stood := { row := turanCountsRow, standIns := [], harness := (true, "cc2378913da44f4ae3230ae991672ec15e26030f9f32ac0152a7ccd52c6b8b36"), looks := false }, kinds := [], alts := [], laidByText := true, laidKinds := [.data, .data], laidTests := true, laidLooks := .later }
def TuranCountsCardSaid : Prop := Claim7.holds Tryz.pinned (.plain (OpenSpec.ofChange turanCountsSpec)) turanCountsCard

/-- THE TIED CARD OF 'parquetrylaw12.TuranNil'. -/
def turanNilCard : Claim7 := { stood := { row := turanNilRow, standIns := [], harness := (true, "cc2378913da44f4ae3230ae991672ec15e26030f9f32ac0152a7ccd52c6b8b36"), looks := false }, kinds := [], alts := [], laidByText := true, laidKinds := [.data, .data], laidTests := true, laidLooks := .later }
def TuranNilCardSaid : Prop := Claim7.holds Tryz.pinned (.plain (OpenSpec.ofChange turanNilSpec)) turanNilCard

/-- THE TIED CARD OF 'parquetrylaw12.TuranJoins'. -/
def turanJoinsCard : Claim7 := { stood := { row := turanJoinsRow, standIns := [], harness := (true, "cc2378913da44f4ae3230ae991672ec15e26030f9f32ac0152a7ccd52c6b8b36"), looks := false }, kinds := [], alts := [], laidByText := true, laidKinds := [.data, .data], laidTests := true, laidLooks := .later }
def TuranJoinsCardSaid : Prop := Claim7.holds Tryz.pinned (.plain (OpenSpec.ofChange turanJoinsSpec)) turanJoinsCard

/-- THE SECOND FORM's CARD OF 'parquetrylaw12.TuranCodes'. -/
def turanCodesUptoCard : Claim7 := { stood := { row := turanCodesUptoRow, standIns := [], harness := (true, "cc2378913da44f4ae3230ae991672ec15e26030f9f32ac0152a7ccd52c6b8b36"), looks := false }, kinds := [], alts := [], laidByText := true, laidKinds := [.data, .data], laidTests := true, laidLooks := .later }
def TuranCodesUptoCardSaid : Prop := Claim7.holds Tryz.pinned (.plain (OpenSpec.upto turanCodesSpec)) turanCodesUptoCard

/-- THE SECOND FORM's CARD OF 'parquetrylaw12.TuranWords'. -/
def turanWordsUptoCard : Claim7 := { stood := { row := turanWordsUptoRow, standIns := [], harness := (true, "cc2378913da44f4ae3230ae991672ec15e26030f9f32ac0152a7ccd52c6b8b36"), looks := false }, kinds := [], alts := [], laidByText := true, laidKinds := [.data, .data], laidTests := true, laidLooks := .later }
def TuranWordsUptoCardSaid : Prop := Claim7.holds Tryz.pinned (.plain (OpenSpec.upto turanWordsSpec)) turanWordsUptoCard

/-- THE SECOND FORM's CARD OF 'parquetrylaw12.TuranNames'. -/
def turanNamesUptoCard : Claim7 := { stood := { row := turanNamesUptoRow, standIns := [], harness := (true, "cc2378913da44f4ae3230ae991672ec15e26030f9f32ac0152a7ccd52c6b8b36"), looks := false }, kinds := [], alts := [], laidByText := true, laidKinds := [.data, .data], laidTests := true, laidLooks := .later }
def TuranNamesUptoCardSaid : Prop := Claim7.holds Tryz.pinned (.plain (OpenSpec.upto turanNamesSpec)) turanNamesUptoCard

/-- THE SECOND FORM's CARD OF 'parquetrylaw12.TuranCounts'. -/
def turanCountsUptoCard : Claim7 := { stood := { row := turanCountsUptoRow, standIns := [], harness := (true, "cc2378913da44f4ae3230ae991672ec15e26030f9f32ac0152a7ccd52c6b8b36"), looks := false }, kinds := [], alts := [], laidByText := true, laidKinds := [.data, .data], laidTests := true, laidLooks := .later }
def TuranCountsUptoCardSaid : Prop := Claim7.holds Tryz.pinned (.plain (OpenSpec.upto turanCountsSpec)) turanCountsUptoCard

/-- THE SECOND FORM's CARD OF 'parquetrylaw12.TuranNil'. -/
def turanNilUptoCard : Claim7 := { stood := { row := turanNilUptoRow, standIns := [], harness := (true, "cc2378913da44f4ae3230ae991672ec15e26030f9f32ac0152a7ccd52c6b8b36"), looks := false }, kinds := [], alts := [], laidByText := true, laidKinds := [.data, .data], laidTests := true, laidLooks := .later }
def TuranNilUptoCardSaid : Prop := Claim7.holds Tryz.pinned (.plain (OpenSpec.upto turanNilSpec)) turanNilUptoCard

/-- THE SECOND FORM's CARD OF 'parquetrylaw12.TuranJoins'. -/
def turanJoinsUptoCard : Claim7 := { stood := { row := turanJoinsUptoRow, standIns := [], harness := (true, "cc2378913da44f4ae3230ae991672ec15e26030f9f32ac0152a7ccd52c6b8b36"), looks := false }, kinds := [], alts := [], laidByText := true, laidKinds := [.data, .data], laidTests := true, laidLooks := .later }
def TuranJoinsUptoCardSaid : Prop := Claim7.holds Tryz.pinned (.plain (OpenSpec.upto turanJoinsSpec)) turanJoinsUptoCard
end Rows
end Go.Proofs.YtijbdnhlpbcabaaGreatDoor
