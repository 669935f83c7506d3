/-
  No cell of these rows narrows 'for every input' (looked for: loops, veiled, ifaces, maps, wideKeys, modest, calm, conditions, laid).
  DERIVED. THE GIVEN ROWS OF THIS SEAT. 6 by the template 'for every input the law returns true; each argument reads behind the call as it read before'; 0 by the template 'total and deterministic' (their statements: YtafgjfdbmijgcaaTotals.lean).
  GIVEN WITH THE SEED: the statements are not yours to turn. If you find one false, say at which input.
  Laid BY PROGRAM, IN A SANDBOX (cutbox-rows.mjs): the forced cells as the released guide's own fill.sh prints them over the translation 319576c163d9a401… (all of the seat's roots in one cut). By AI agents, Wed Nov 11 2026. No macro, syntax, notation, axiom, sorry.
-/
import Derived.Test.YtafgjfdbmijgcaaChecked
import GoSem.Claim
import GoSem.ClaimJoined
import GoSem.ClaimMapViews
import Derived.JoinedTies
import Derived.KernelRfl
namespace Go.Proofs.Ytafgjfdbmijgcaa
/- THE CELL 'sum', in the pinned program and in every row, IS THE sha256 OF THE DUMP (.gsa) THAT YtafgjfdbmijgcaaProg.lean LOADS. Nothing in Lean hashes anything: it is a label: what it is worth is what the hold of that sum in a sandbox is worth. -/
noncomputable def Try.pinned : Pinned := { name := "ytafgjfdbmijgcaa", sum := "319576c163d9a401510719fda7e00af7573f2929709774f97bbe8e8fbe0dd0dd", checked := Try.checked }
namespace Rows
def none {H : Type} : Left H := { results := [], args := [] }

/-- 'parquetrylaw06.DartMakes': WHATEVER THE INPUT: true; the input reads as it did. -/
def dartMakesSpec : ChangeSpec := { name := "dartMakes", fn := fun _ => fun
  | [d1, d2, d3] => { results := [.lit (.bool true)], args := [d1, d2, d3] }
  | _ => none }
def dartMakesRow : OpenClaim := { program := "ytafgjfdbmijgcaa", sum := "319576c163d9a401510719fda7e00af7573f2929709774f97bbe8e8fbe0dd0dd", func := "parquetry/parquetrylaw06.DartMakes", spec := "dartMakes", apart := false }
def DartMakesSaid : Prop := dartMakesRow.holds Try.pinned (OpenSpec.ofChange dartMakesSpec)

/-- ITS FALSE NEIGHBOUR: 'it returns false'. Refute it at one input. -/
def dartMakesWrong : ChangeSpec := { name := "dartMakes", fn := fun _ => fun
  | [d1, d2, d3] => { results := [.lit (.bool false)], args := [d1, d2, d3] }
  | _ => none }
def DartMakesWrongFalsely : Prop := dartMakesRow.holds Try.pinned (OpenSpec.ofChange dartMakesWrong)

/-- 'parquetrylaw06.DartTurns': WHATEVER THE INPUT: true; the input reads as it did. -/
def dartTurnsSpec : ChangeSpec := { name := "dartTurns", fn := fun _ => fun
  | [d1, d2, d3, d4] => { results := [.lit (.bool true)], args := [d1, d2, d3, d4] }
  | _ => none }
def dartTurnsRow : OpenClaim := { program := "ytafgjfdbmijgcaa", sum := "319576c163d9a401510719fda7e00af7573f2929709774f97bbe8e8fbe0dd0dd", func := "parquetry/parquetrylaw06.DartTurns", spec := "dartTurns", apart := false }
def DartTurnsSaid : Prop := dartTurnsRow.holds Try.pinned (OpenSpec.ofChange dartTurnsSpec)

/-- ITS FALSE NEIGHBOUR: 'it returns false'. Refute it at one input. -/
def dartTurnsWrong : ChangeSpec := { name := "dartTurns", fn := fun _ => fun
  | [d1, d2, d3, d4] => { results := [.lit (.bool false)], args := [d1, d2, d3, d4] }
  | _ => none }
def DartTurnsWrongFalsely : Prop := dartTurnsRow.holds Try.pinned (OpenSpec.ofChange dartTurnsWrong)

/-- 'parquetrylaw06.DartNames': WHATEVER THE INPUT: true; the input reads as it did. -/
def dartNamesSpec : ChangeSpec := { name := "dartNames", fn := fun _ => fun
  | [d1, d2, d3, d4] => { results := [.lit (.bool true)], args := [d1, d2, d3, d4] }
  | _ => none }
def dartNamesRow : OpenClaim := { program := "ytafgjfdbmijgcaa", sum := "319576c163d9a401510719fda7e00af7573f2929709774f97bbe8e8fbe0dd0dd", func := "parquetry/parquetrylaw06.DartNames", spec := "dartNames", apart := false }
def DartNamesSaid : Prop := dartNamesRow.holds Try.pinned (OpenSpec.ofChange dartNamesSpec)

/-- ITS FALSE NEIGHBOUR: 'it returns false'. Refute it at one input. -/
def dartNamesWrong : ChangeSpec := { name := "dartNames", fn := fun _ => fun
  | [d1, d2, d3, d4] => { results := [.lit (.bool false)], args := [d1, d2, d3, d4] }
  | _ => none }
def DartNamesWrongFalsely : Prop := dartNamesRow.holds Try.pinned (OpenSpec.ofChange dartNamesWrong)

/-- 'parquetrylaw06.DartRoots': WHATEVER THE INPUT: true; the input reads as it did. -/
def dartRootsSpec : ChangeSpec := { name := "dartRoots", fn := fun _ => fun
  | [d1, d2, d3, d4, d5, d6, d7, d8, d9] => { results := [.lit (.bool true)], args := [d1, d2, d3, d4, d5, d6, d7, d8, d9] }
  | _ => none }
def dartRootsRow : OpenClaim := { program := "ytafgjfdbmijgcaa", sum := "319576c163d9a401510719fda7e00af7573f2929709774f97bbe8e8fbe0dd0dd", func := "parquetry/parquetrylaw06.DartRoots", spec := "dartRoots", apart := false }
def DartRootsSaid : Prop := dartRootsRow.holds Try.pinned (OpenSpec.ofChange dartRootsSpec)

/-- ITS FALSE NEIGHBOUR: 'it returns false'. Refute it at one input. -/
def dartRootsWrong : ChangeSpec := { name := "dartRoots", fn := fun _ => fun
  | [d1, d2, d3, d4, d5, d6, d7, d8, d9] => { results := [.lit (.bool false)], args := [d1, d2, d3, d4, d5, d6, d7, d8, d9] }
  | _ => none }
def DartRootsWrongFalsely : Prop := dartRootsRow.holds Try.pinned (OpenSpec.ofChange dartRootsWrong)

/-- 'parquetrylaw06.DartNil': WHATEVER THE INPUT: true; the input reads as it did. -/
def dartNilSpec : ChangeSpec := { name := "dartNil", fn := fun _ => fun
  | [d] => { results := [.lit (.bool true)], args := [d] }
  | _ => none }
def dartNilRow : OpenClaim := { program := "ytafgjfdbmijgcaa", sum := "319576c163d9a401510719fda7e00af7573f2929709774f97bbe8e8fbe0dd0dd", func := "parquetry/parquetrylaw06.DartNil", spec := "dartNil", apart := false }
def DartNilSaid : Prop := dartNilRow.holds Try.pinned (OpenSpec.ofChange dartNilSpec)

/-- ITS FALSE NEIGHBOUR: 'it returns false'. Refute it at one input. -/
def dartNilWrong : ChangeSpec := { name := "dartNil", fn := fun _ => fun
  | [d] => { results := [.lit (.bool false)], args := [d] }
  | _ => none }
def DartNilWrongFalsely : Prop := dartNilRow.holds Try.pinned (OpenSpec.ofChange dartNilWrong)

/-- 'parquetrylaw06.DartSums': WHATEVER THE INPUT: true; the input reads as it did. -/
def dartSumsSpec : ChangeSpec := { name := "dartSums", fn := fun _ => fun
  | [d1, d2, d3, d4] => { results := [.lit (.bool true)], args := [d1, d2, d3, d4] }
  | _ => none }
def dartSumsRow : OpenClaim := { program := "ytafgjfdbmijgcaa", sum := "319576c163d9a401510719fda7e00af7573f2929709774f97bbe8e8fbe0dd0dd", func := "parquetry/parquetrylaw06.DartSums", spec := "dartSums", apart := false }
def DartSumsSaid : Prop := dartSumsRow.holds Try.pinned (OpenSpec.ofChange dartSumsSpec)

/-- ITS FALSE NEIGHBOUR: 'it returns false'. Refute it at one input. -/
def dartSumsWrong : ChangeSpec := { name := "dartSums", fn := fun _ => fun
  | [d1, d2, d3, d4] => { results := [.lit (.bool false)], args := [d1, d2, d3, d4] }
  | _ => none }
def DartSumsWrongFalsely : Prop := dartSumsRow.holds Try.pinned (OpenSpec.ofChange dartSumsWrong)

/- THE SECOND FORM. 'bulk': how many values and letters a reading holds, each counted each time it is reached (what is shared counts as often as it is met; a slice's spare places count too). A statement '..UptoSaid' is the law's where the arguments, and the package variables that the reading takes, are together of bulk at most 1048576: NARROWER than '..Said'. Prove '..Said' where nothing that the law and all that it calls make is longer than what came in: it says more and counts as full. Else prove '..UptoSaid'. A law counts once. -/
mutual
def uptoBulk {H : Type} : DataW H → Nat
  | .lit (.string bytes) => bytes.length + 1
  | .lit _ => 1
  | .nil => 1
  | .ptr d => uptoBulk d + 1
  | .slice elems spare => uptoBulkAll elems + uptoBulkAll spare + 1
  | .agg parts => uptoBulkAll parts + 1
  | .iface _ d => uptoBulk d + 1
  | .map entries => uptoBulkEntries entries + 1
  | .held _ => 1
def uptoBulkAll {H : Type} : List (DataW H) → Nat
  | [] => 0
  | d :: r => uptoBulk d + uptoBulkAll r
def uptoBulkEntries {H : Type} : List (Lit × DataW H) → Nat
  | [] => 0
  | x :: r => uptoBulkEntry x + uptoBulkEntries r
def uptoBulkEntry {H : Type} : Lit × DataW H → Nat
  | (.string bytes, d) => bytes.length + uptoBulk d + 1
  | (_, d) => uptoBulk d + 1
 end
def uptoSmall : (H : Type) → List (DataW H) → Bool := fun _ ds => decide (uptoBulkAll ds ≤ 1048576)
def OpenSpec.upto (s : _root_.Go.ChangeSpec) : _root_.Go.OpenSpec := { _root_.Go.OpenSpec.ofChange s with cond := some uptoSmall }

/-- 'parquetrylaw06.DartMakes', WHERE WHAT IT READS IS OF BULK AT MOST 1048576: true; the input reads as it did. -/
def dartMakesUptoRow : OpenClaim := { program := "ytafgjfdbmijgcaa", sum := "319576c163d9a401510719fda7e00af7573f2929709774f97bbe8e8fbe0dd0dd", func := "parquetry/parquetrylaw06.DartMakes", spec := "dartMakes", apart := false, narrowed := true }
def DartMakesUptoSaid : Prop := dartMakesUptoRow.holds Try.pinned (OpenSpec.upto dartMakesSpec)

/-- 'parquetrylaw06.DartTurns', WHERE WHAT IT READS IS OF BULK AT MOST 1048576: true; the input reads as it did. -/
def dartTurnsUptoRow : OpenClaim := { program := "ytafgjfdbmijgcaa", sum := "319576c163d9a401510719fda7e00af7573f2929709774f97bbe8e8fbe0dd0dd", func := "parquetry/parquetrylaw06.DartTurns", spec := "dartTurns", apart := false, narrowed := true }
def DartTurnsUptoSaid : Prop := dartTurnsUptoRow.holds Try.pinned (OpenSpec.upto dartTurnsSpec)

/-- 'parquetrylaw06.DartNames', WHERE WHAT IT READS IS OF BULK AT MOST 1048576: true; the input reads as it did. -/
def dartNamesUptoRow : OpenClaim := { program := "ytafgjfdbmijgcaa", sum := "319576c163d9a401510719fda7e00af7573f2929709774f97bbe8e8fbe0dd0dd", func := "parquetry/parquetrylaw06.DartNames", spec := "dartNames", apart := false, narrowed := true }
def DartNamesUptoSaid : Prop := dartNamesUptoRow.holds Try.pinned (OpenSpec.upto dartNamesSpec)

/-- 'parquetrylaw06.DartRoots', WHERE WHAT IT READS IS OF BULK AT MOST 1048576: true; the input reads as it did. -/
def dartRootsUptoRow : OpenClaim := { program := "ytafgjfdbmijgcaa", sum := "319576c163d9a401510719fda7e00af7573f2929709774f97bbe8e8fbe0dd0dd", func := "parquetry/parquetrylaw06.DartRoots", spec := "dartRoots", apart := false, narrowed := true }
def DartRootsUptoSaid : Prop := dartRootsUptoRow.holds Try.pinned (OpenSpec.upto dartRootsSpec)

/-- 'parquetrylaw06.DartNil', WHERE WHAT IT READS IS OF BULK AT MOST 1048576: true; the input reads as it did. -/
def dartNilUptoRow : OpenClaim := { program := "ytafgjfdbmijgcaa", sum := "319576c163d9a401510719fda7e00af7573f2929709774f97bbe8e8fbe0dd0dd", func := "parquetry/parquetrylaw06.DartNil", spec := "dartNil", apart := false, narrowed := true }
def DartNilUptoSaid : Prop := dartNilUptoRow.holds Try.pinned (OpenSpec.upto dartNilSpec)

/-- 'parquetrylaw06.DartSums', WHERE WHAT IT READS IS OF BULK AT MOST 1048576: true; the input reads as it did. -/
def dartSumsUptoRow : OpenClaim := { program := "ytafgjfdbmijgcaa", sum := "319576c163d9a401510719fda7e00af7573f2929709774f97bbe8e8fbe0dd0dd", func := "parquetry/parquetrylaw06.DartSums", spec := "dartSums", apart := false, narrowed := true }
def DartSumsUptoSaid : Prop := dartSumsUptoRow.holds Try.pinned (OpenSpec.upto dartSumsSpec)

end Rows
end Go.Proofs.Ytafgjfdbmijgcaa
