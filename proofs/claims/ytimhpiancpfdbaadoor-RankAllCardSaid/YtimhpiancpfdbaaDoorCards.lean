/-
  DERIVED. GIVEN WITH THE SEED: THE CARDS: each row of YtimhpiancpfdbaaDoorRows.lean that lists a variable, with what it lists TIED to the program's text (the seventh form; the later family's looks); each row that meets fmt, with fmt's text TOLD by the authors' own Lean function (tested against real Go, not proved from fmt's source: count such statements apart). THE CARD IS WHAT COUNTS. Prove the row's statement (the work); the ties are given (YtimhpiancpfdbaaDoorTie.lean); close each card by the builder's one call (the guide's Derived/Test/ToyasCard.lean, 'card_holds'). Laid BY PROGRAM, IN A SANDBOX (cutbox-door.mjs). By AI agents, Wed Nov 11 2026. No macro, syntax, notation, axiom, sorry.
-/
import Derived.Test.YtimhpiancpfdbaaDoorRows
import GoSem.ClaimSeven
namespace Go.Proofs.YtimhpiancpfdbaaDoor
namespace Rows

/-- THE TIED CARD OF 'parquetrylaw02.RankAll'. -/
def rankAllCard : Claim7 := { stood := { row := rankAllRow, standIns := [], harness := (true, "5aa86636e0b38e089aefd6cee20e204aba2ceb03c90e268dc412a10ee30df611"), looks := false }, kinds := [], alts := [], laidByText := true, laidKinds := [.data], laidTests := true, laidLooks := .later }
def RankAllCardSaid : Prop := Claim7.holds Tryd.pinned (.plain (OpenSpec.ofChange rankAllSpec)) rankAllCard

/-- THE TIED CARD OF 'parquetrylaw02.RankRaw'. -/
def rankRawCard : Claim7 := { stood := { row := rankRawRow, standIns := [], harness := (true, "5aa86636e0b38e089aefd6cee20e204aba2ceb03c90e268dc412a10ee30df611"), looks := false }, kinds := [], alts := [], laidByText := true, laidKinds := [.data], laidTests := true, laidLooks := .later }
def RankRawCardSaid : Prop := Claim7.holds Tryd.pinned (.plain (OpenSpec.ofChange rankRawSpec)) rankRawCard

/-- THE TIED CARD OF 'parquetrylaw02.RankOnce'. -/
def rankOnceCard : Claim7 := { stood := { row := rankOnceRow, standIns := [], harness := (true, "5aa86636e0b38e089aefd6cee20e204aba2ceb03c90e268dc412a10ee30df611"), looks := false }, kinds := [], alts := [], laidByText := true, laidKinds := [.data], laidTests := true, laidLooks := .later }
def RankOnceCardSaid : Prop := Claim7.holds Tryd.pinned (.plain (OpenSpec.ofChange rankOnceSpec)) rankOnceCard

/-- THE TIED CARD OF 'parquetrylaw02.RankNil'. -/
def rankNilCard : Claim7 := { stood := { row := rankNilRow, standIns := [], harness := (true, "5aa86636e0b38e089aefd6cee20e204aba2ceb03c90e268dc412a10ee30df611"), looks := false }, kinds := [], alts := [], laidByText := true, laidKinds := [.data], laidTests := true, laidLooks := .later }
def RankNilCardSaid : Prop := Claim7.holds Tryd.pinned (.plain (OpenSpec.ofChange rankNilSpec)) rankNilCard

/-- THE TIED CARD OF 'parquetrylaw02.RankTurns'. -/
def rankTurnsCard : Claim7 := { stood := { row := rankTurnsRow, standIns := [], harness := (true, "5aa86636e0b38e089aefd6cee20e204aba2ceb03c90e268dc412a10ee30df611"), looks := false }, kinds := [], alts := [], laidByText := true, laidKinds := [.data], laidTests := true, laidLooks := .later }
def RankTurnsCardSaid : Prop := Claim7.holds Tryd.pinned (.plain (OpenSpec.ofChange rankTurnsSpec)) rankTurnsCard

/-- THE SECOND FORM's CARD OF 'parquetrylaw02.RankAll'. -/
def rankAllUptoCard : Claim7 := { stood := { row := rankAllUptoRow, standIns := [], harness := (true, "5aa86636e0b38e089aefd6cee20e204aba2ceb03c90e268dc412a10ee30df611"), looks := false }, kinds := [], alts := [], laidByText := true, laidKinds := [.data], laidTests := true, laidLooks := .later }
def RankAllUptoCardSaid : Prop := Claim7.holds Tryd.pinned (.plain (OpenSpec.upto rankAllSpec)) rankAllUptoCard

/-- THE SECOND FORM's CARD OF 'parquetrylaw02.RankRaw'. -/
def rankRawUptoCard : Claim7 := { stood := { row := rankRawUptoRow, standIns := [], harness := (true, "5aa86636e0b38e089aefd6cee20e204aba2ceb03c90e268dc412a10ee30df611"), looks := false }, kinds := [], alts := [], laidByText := true, laidKinds := [.data], laidTests := true, laidLooks := .later }
def RankRawUptoCardSaid : Prop := Claim7.holds Tryd.pinned (.plain (OpenSpec.upto rankRawSpec)) rankRawUptoCard

/-- THE SECOND FORM's CARD OF 'parquetrylaw02.RankOnce'. -/
def rankOnceUptoCard : Claim7 := { stood := { row := rankOnceUptoRow, standIns := [], harness := (true, "5aa86636e0b38e089aefd6cee20e204aba2ceb03c90e268dc412a10ee30df611"), looks := false }, kinds := [], alts := [], laidByText := true, laidKinds := [.data], laidTests := true, laidLooks := .later }
def RankOnceUptoCardSaid : Prop := Claim7.holds Tryd.pinned (.plain (OpenSpec.upto rankOnceSpec)) rankOnceUptoCard

/-- THE SECOND FORM's CARD OF 'parquetrylaw02.RankNil'. -/
def rankNilUptoCard : Claim7 := { stood := { row := rankNilUptoRow, standIns := [], harness := (true, "5aa86636e0b38e089aefd6cee20e204aba2ceb03c90e268dc412a10ee30df611"), looks := false }, kinds := [], alts := [], laidByText := true, laidKinds := [.data], laidTests := true, laidLooks := .later }
def RankNilUptoCardSaid : Prop := Claim7.holds Tryd.pinned (.plain (OpenSpec.upto rankNilSpec)) rankNilUptoCard

/-- THE SECOND FORM's CARD OF 'parquetrylaw02.RankTurns'. -/
def rankTurnsUptoCard : Claim7 := { stood := { row := rankTurnsUptoRow, standIns := [], harness := (true, "5aa86636e0b38e089aefd6cee20e204aba2ceb03c90e268dc412a10ee30df611"), looks := false }, kinds := [], alts := [], laidByText := true, laidKinds := [.data], laidTests := true, laidLooks := .later }
def RankTurnsUptoCardSaid : Prop := Claim7.holds Tryd.pinned (.plain (OpenSpec.upto rankTurnsSpec)) rankTurnsUptoCard
end Rows
end Go.Proofs.YtimhpiancpfdbaaDoor
