/-
  No cell of these rows narrows 'for every input' (looked for: loops, veiled, ifaces, maps, wideKeys, modest, calm, conditions, laid).
  DERIVED. THE GIVEN ROWS OF THIS SEAT. 6 by the template 'for every input the law returns true; each argument reads behind the call as it read before'; 0 by the template 'total and deterministic' (their statements: YtoncollcefanjaaTotals.lean).
  GIVEN WITH THE SEED: the statements are not yours to turn. If you find one false, say at which input.
  Laid BY PROGRAM, IN A SANDBOX (cutbox-rows.mjs): the forced cells as the released guide's own fill.sh prints them over the translation 023cf6378d4d01e7… (all of the seat's roots in one cut). By AI agents, Wed Nov 11 2026. No macro, syntax, notation, axiom, sorry.
-/
import Derived.Test.YtoncollcefanjaaChecked
import GoSem.Claim
import GoSem.ClaimJoined
import GoSem.ClaimMapViews
import Derived.JoinedTies
import Derived.KernelRfl
namespace Go.Proofs.Ytoncollcefanjaa
/- THE CELL 'sum', in the pinned program and in every row, IS THE sha256 OF THE DUMP (.gsa) THAT YtoncollcefanjaaProg.lean LOADS. Nothing in Lean hashes anything: it is a label: what it is worth is what the hold of that sum in a sandbox is worth. -/
noncomputable def Try.pinned : Pinned := { name := "ytoncollcefanjaa", sum := "023cf6378d4d01e7e4ead80f416668e077cc2bd0e054922867a42306a98b7950", checked := Try.checked }
namespace Rows
def none {H : Type} : Left H := { results := [], args := [] }

/-- 'parquetrylaw11.CanonNames': WHATEVER THE INPUT: true; the input reads as it did. -/
def canonNamesSpec : ChangeSpec := { name := "canonNames", fn := fun _ => fun
  | [d1, d2, d3, d4] => { results := [.lit (.bool true)], args := [d1, d2, d3, d4] }
  | _ => none }
def canonNamesRow : OpenClaim := { program := "ytoncollcefanjaa", sum := "023cf6378d4d01e7e4ead80f416668e077cc2bd0e054922867a42306a98b7950", func := "parquetry/parquetrylaw11.CanonNames", spec := "canonNames", inPlace := ["slices.overlaps[parquetry/canon.part]"], unfollowed := true, recurses := true, plainKeys := false, apart := false }
def CanonNamesSaid : Prop := canonNamesRow.holds Try.pinned (OpenSpec.ofChange canonNamesSpec)

/-- ITS FALSE NEIGHBOUR: 'it returns false'. Refute it at one input. -/
def canonNamesWrong : ChangeSpec := { name := "canonNames", fn := fun _ => fun
  | [d1, d2, d3, d4] => { results := [.lit (.bool false)], args := [d1, d2, d3, d4] }
  | _ => none }
def CanonNamesWrongFalsely : Prop := canonNamesRow.holds Try.pinned (OpenSpec.ofChange canonNamesWrong)

/-- 'parquetrylaw11.CanonOnce': WHATEVER THE INPUT: true; the input reads as it did. -/
def canonOnceSpec : ChangeSpec := { name := "canonOnce", fn := fun _ => fun
  | [d1, d2, d3, d4, d5] => { results := [.lit (.bool true)], args := [d1, d2, d3, d4, d5] }
  | _ => none }
def canonOnceRow : OpenClaim := { program := "ytoncollcefanjaa", sum := "023cf6378d4d01e7e4ead80f416668e077cc2bd0e054922867a42306a98b7950", func := "parquetry/parquetrylaw11.CanonOnce", spec := "canonOnce", inPlace := ["slices.overlaps[parquetry/canon.part]"], unfollowed := true, recurses := true, plainKeys := false, apart := false }
def CanonOnceSaid : Prop := canonOnceRow.holds Try.pinned (OpenSpec.ofChange canonOnceSpec)

/-- ITS FALSE NEIGHBOUR: 'it returns false'. Refute it at one input. -/
def canonOnceWrong : ChangeSpec := { name := "canonOnce", fn := fun _ => fun
  | [d1, d2, d3, d4, d5] => { results := [.lit (.bool false)], args := [d1, d2, d3, d4, d5] }
  | _ => none }
def CanonOnceWrongFalsely : Prop := canonOnceRow.holds Try.pinned (OpenSpec.ofChange canonOnceWrong)

/-- 'parquetrylaw11.CanonIso': WHATEVER THE INPUT: true; the input reads as it did. -/
def canonIsoSpec : ChangeSpec := { name := "canonIso", fn := fun _ => fun
  | [d1, d2, d3, d4, d5, d6, d7] => { results := [.lit (.bool true)], args := [d1, d2, d3, d4, d5, d6, d7] }
  | _ => none }
def canonIsoRow : OpenClaim := { program := "ytoncollcefanjaa", sum := "023cf6378d4d01e7e4ead80f416668e077cc2bd0e054922867a42306a98b7950", func := "parquetry/parquetrylaw11.CanonIso", spec := "canonIso", inPlace := ["slices.overlaps[parquetry/canon.part]"], unfollowed := true, recurses := true, plainKeys := false, apart := false }
def CanonIsoSaid : Prop := canonIsoRow.holds Try.pinned (OpenSpec.ofChange canonIsoSpec)

/-- ITS FALSE NEIGHBOUR: 'it returns false'. Refute it at one input. -/
def canonIsoWrong : ChangeSpec := { name := "canonIso", fn := fun _ => fun
  | [d1, d2, d3, d4, d5, d6, d7] => { results := [.lit (.bool false)], args := [d1, d2, d3, d4, d5, d6, d7] }
  | _ => none }
def CanonIsoWrongFalsely : Prop := canonIsoRow.holds Try.pinned (OpenSpec.ofChange canonIsoWrong)

/-- 'parquetrylaw11.CanonShapes': WHATEVER THE INPUT: true; the input reads as it did. -/
def canonShapesSpec : ChangeSpec := { name := "canonShapes", fn := fun _ => fun
  | [d1, d2, d3] => { results := [.lit (.bool true)], args := [d1, d2, d3] }
  | _ => none }
def canonShapesRow : OpenClaim := { program := "ytoncollcefanjaa", sum := "023cf6378d4d01e7e4ead80f416668e077cc2bd0e054922867a42306a98b7950", func := "parquetry/parquetrylaw11.CanonShapes", spec := "canonShapes", unfollowed := true, recurses := true, plainKeys := false, apart := false }
def CanonShapesSaid : Prop := canonShapesRow.holds Try.pinned (OpenSpec.ofChange canonShapesSpec)

/-- ITS FALSE NEIGHBOUR: 'it returns false'. Refute it at one input. -/
def canonShapesWrong : ChangeSpec := { name := "canonShapes", fn := fun _ => fun
  | [d1, d2, d3] => { results := [.lit (.bool false)], args := [d1, d2, d3] }
  | _ => none }
def CanonShapesWrongFalsely : Prop := canonShapesRow.holds Try.pinned (OpenSpec.ofChange canonShapesWrong)

/-- 'parquetrylaw11.CanonNil': WHATEVER THE INPUT: true; the input reads as it did. -/
def canonNilSpec : ChangeSpec := { name := "canonNil", fn := fun _ => fun
  | [d] => { results := [.lit (.bool true)], args := [d] }
  | _ => none }
def canonNilRow : OpenClaim := { program := "ytoncollcefanjaa", sum := "023cf6378d4d01e7e4ead80f416668e077cc2bd0e054922867a42306a98b7950", func := "parquetry/parquetrylaw11.CanonNil", spec := "canonNil", inPlace := ["slices.overlaps[parquetry/canon.part]"], unfollowed := true, recurses := true, plainKeys := false, apart := false }
def CanonNilSaid : Prop := canonNilRow.holds Try.pinned (OpenSpec.ofChange canonNilSpec)

/-- ITS FALSE NEIGHBOUR: 'it returns false'. Refute it at one input. -/
def canonNilWrong : ChangeSpec := { name := "canonNil", fn := fun _ => fun
  | [d] => { results := [.lit (.bool false)], args := [d] }
  | _ => none }
def CanonNilWrongFalsely : Prop := canonNilRow.holds Try.pinned (OpenSpec.ofChange canonNilWrong)

/-- 'parquetrylaw11.CanonRoots': WHATEVER THE INPUT: true; the input reads as it did. -/
def canonRootsSpec : ChangeSpec := { name := "canonRoots", fn := fun _ => fun
  | [d1, d2, d3, d4] => { results := [.lit (.bool true)], args := [d1, d2, d3, d4] }
  | _ => none }
def canonRootsRow : OpenClaim := { program := "ytoncollcefanjaa", sum := "023cf6378d4d01e7e4ead80f416668e077cc2bd0e054922867a42306a98b7950", func := "parquetry/parquetrylaw11.CanonRoots", spec := "canonRoots", inPlace := ["slices.overlaps[parquetry/canon.part]"], unfollowed := true, recurses := true, plainKeys := false, apart := false }
def CanonRootsSaid : Prop := canonRootsRow.holds Try.pinned (OpenSpec.ofChange canonRootsSpec)

/-- ITS FALSE NEIGHBOUR: 'it returns false'. Refute it at one input. -/
def canonRootsWrong : ChangeSpec := { name := "canonRoots", fn := fun _ => fun
  | [d1, d2, d3, d4] => { results := [.lit (.bool false)], args := [d1, d2, d3, d4] }
  | _ => none }
def CanonRootsWrongFalsely : Prop := canonRootsRow.holds Try.pinned (OpenSpec.ofChange canonRootsWrong)

/- THE SECOND FORM. 'bulk': how many values and letters a reading holds, each counted each time it is reached (what is shared counts as often as it is met; a slice's spare places count too). A statement '..UptoSaid' is the law's where the arguments, and the package variables that the reading takes, are together of bulk at most 1048576: NARROWER than '..Said'. Prove '..Said' where nothing that the law and all that it calls make is longer than what came in: it says more and counts as full. Else prove '..UptoSaid'. A law counts once. -/
mutual
def uptoBulk {H : Type} : DataW H → Nat
  | .lit (.string bytes) => bytes.length + 1
  | .lit _ => 1
  | .nil => 1
  | .ptr d => uptoBulk d + 1
  | .slice elems spare => uptoBulkAll elems + uptoBulkAll spare + 1
  | .agg parts => uptoBulkAll parts + 1
  | .iface _ d => uptoBulk d + 1
  | .map entries => uptoBulkEntries entries + 1
  | .held _ => 1
def uptoBulkAll {H : Type} : List (DataW H) → Nat
  | [] => 0
  | d :: r => uptoBulk d + uptoBulkAll r
def uptoBulkEntries {H : Type} : List (Lit × DataW H) → Nat
  | [] => 0
  | x :: r => uptoBulkEntry x + uptoBulkEntries r
def uptoBulkEntry {H : Type} : Lit × DataW H → Nat
  | (.string bytes, d) => bytes.length + uptoBulk d + 1
  | (_, d) => uptoBulk d + 1
 end
def uptoSmall : (H : Type) → List (DataW H) → Bool := fun _ ds => decide (uptoBulkAll ds ≤ 1048576)
def OpenSpec.upto (s : _root_.Go.ChangeSpec) : _root_.Go.OpenSpec := { _root_.Go.OpenSpec.ofChange s with cond := some uptoSmall }

/-- 'parquetrylaw11.CanonNames', WHERE WHAT IT READS IS OF BULK AT MOST 1048576: true; the input reads as it did. -/
def canonNamesUptoRow : OpenClaim := { program := "ytoncollcefanjaa", sum := "023cf6378d4d01e7e4ead80f416668e077cc2bd0e054922867a42306a98b7950", func := "parquetry/parquetrylaw11.CanonNames", spec := "canonNames", inPlace := ["slices.overlaps[parquetry/canon.part]"], unfollowed := true, recurses := true, plainKeys := false, apart := false, narrowed := true }
def CanonNamesUptoSaid : Prop := canonNamesUptoRow.holds Try.pinned (OpenSpec.upto canonNamesSpec)

/-- 'parquetrylaw11.CanonOnce', WHERE WHAT IT READS IS OF BULK AT MOST 1048576: true; the input reads as it did. -/
def canonOnceUptoRow : OpenClaim := { program := "ytoncollcefanjaa", sum := "023cf6378d4d01e7e4ead80f416668e077cc2bd0e054922867a42306a98b7950", func := "parquetry/parquetrylaw11.CanonOnce", spec := "canonOnce", inPlace := ["slices.overlaps[parquetry/canon.part]"], unfollowed := true, recurses := true, plainKeys := false, apart := false, narrowed := true }
def CanonOnceUptoSaid : Prop := canonOnceUptoRow.holds Try.pinned (OpenSpec.upto canonOnceSpec)

/-- 'parquetrylaw11.CanonIso', WHERE WHAT IT READS IS OF BULK AT MOST 1048576: true; the input reads as it did. -/
def canonIsoUptoRow : OpenClaim := { program := "ytoncollcefanjaa", sum := "023cf6378d4d01e7e4ead80f416668e077cc2bd0e054922867a42306a98b7950", func := "parquetry/parquetrylaw11.CanonIso", spec := "canonIso", inPlace := ["slices.overlaps[parquetry/canon.part]"], unfollowed := true, recurses := true, plainKeys := false, apart := false, narrowed := true }
def CanonIsoUptoSaid : Prop := canonIsoUptoRow.holds Try.pinned (OpenSpec.upto canonIsoSpec)

/-- 'parquetrylaw11.CanonShapes', WHERE WHAT IT READS IS OF BULK AT MOST 1048576: true; the input reads as it did. -/
def canonShapesUptoRow : OpenClaim := { program := "ytoncollcefanjaa", sum := "023cf6378d4d01e7e4ead80f416668e077cc2bd0e054922867a42306a98b7950", func := "parquetry/parquetrylaw11.CanonShapes", spec := "canonShapes", unfollowed := true, recurses := true, plainKeys := false, apart := false, narrowed := true }
def CanonShapesUptoSaid : Prop := canonShapesUptoRow.holds Try.pinned (OpenSpec.upto canonShapesSpec)

/-- 'parquetrylaw11.CanonNil', WHERE WHAT IT READS IS OF BULK AT MOST 1048576: true; the input reads as it did. -/
def canonNilUptoRow : OpenClaim := { program := "ytoncollcefanjaa", sum := "023cf6378d4d01e7e4ead80f416668e077cc2bd0e054922867a42306a98b7950", func := "parquetry/parquetrylaw11.CanonNil", spec := "canonNil", inPlace := ["slices.overlaps[parquetry/canon.part]"], unfollowed := true, recurses := true, plainKeys := false, apart := false, narrowed := true }
def CanonNilUptoSaid : Prop := canonNilUptoRow.holds Try.pinned (OpenSpec.upto canonNilSpec)

/-- 'parquetrylaw11.CanonRoots', WHERE WHAT IT READS IS OF BULK AT MOST 1048576: true; the input reads as it did. -/
def canonRootsUptoRow : OpenClaim := { program := "ytoncollcefanjaa", sum := "023cf6378d4d01e7e4ead80f416668e077cc2bd0e054922867a42306a98b7950", func := "parquetry/parquetrylaw11.CanonRoots", spec := "canonRoots", inPlace := ["slices.overlaps[parquetry/canon.part]"], unfollowed := true, recurses := true, plainKeys := false, apart := false, narrowed := true }
def CanonRootsUptoSaid : Prop := canonRootsUptoRow.holds Try.pinned (OpenSpec.upto canonRootsSpec)

end Rows
end Go.Proofs.Ytoncollcefanjaa
