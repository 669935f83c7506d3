/-
  No cell of these rows narrows 'for every input' (looked for: loops, veiled, ifaces, maps, wideKeys, modest, calm, conditions, laid).
  DERIVED. THE GIVEN ROWS OF THIS SEAT. 5 by the template 'for every input the law returns true; each argument reads behind the call as it read before'; 0 by the template 'total and deterministic' (their statements: YthkocodajjapmaaTotals.lean).
  GIVEN WITH THE SEED: the statements are not yours to turn. If you find one false, say at which input.
  Laid BY PROGRAM, IN A SANDBOX (cutbox-rows.mjs): the forced cells as the released guide's own fill.sh prints them over the translation 45bdeaa642c39299… (all of the seat's roots in one cut). By AI agents, Wed Nov 11 2026. No macro, syntax, notation, axiom, sorry.
-/
import Derived.Test.YthkocodajjapmaaChecked
import GoSem.Claim
import GoSem.ClaimJoined
import GoSem.ClaimMapViews
import Derived.JoinedTies
import Derived.KernelRfl
namespace Go.Proofs.Ythkocodajjapmaa
/- THE CELL 'sum', in the pinned program and in every row, IS THE sha256 OF THE DUMP (.gsa) THAT YthkocodajjapmaaProg.lean LOADS. Nothing in Lean hashes anything: it is a label: what it is worth is what the hold of that sum in a sandbox is worth. -/
noncomputable def Try.pinned : Pinned := { name := "ythkocodajjapmaa", sum := "45bdeaa642c392995de9736c4a4bf15fc18e158780e0243367d4c4325cf56ee1", checked := Try.checked }
namespace Rows
def none {H : Type} : Left H := { results := [], args := [] }

/-- 'parquetrylaw09.WalkSteps': WHATEVER THE INPUT: true; the input reads as it did. -/
def walkStepsSpec : ChangeSpec := { name := "walkSteps", fn := fun _ => fun
  | [d1, d2, d3] => { results := [.lit (.bool true)], args := [d1, d2, d3] }
  | _ => none }
def walkStepsRow : OpenClaim := { program := "ythkocodajjapmaa", sum := "45bdeaa642c392995de9736c4a4bf15fc18e158780e0243367d4c4325cf56ee1", func := "parquetry/parquetrylaw09.WalkSteps", spec := "walkSteps", unfollowed := true, recurses := true, apart := false }
def WalkStepsSaid : Prop := walkStepsRow.holds Try.pinned (OpenSpec.ofChange walkStepsSpec)

/-- ITS FALSE NEIGHBOUR: 'it returns false'. Refute it at one input. -/
def walkStepsWrong : ChangeSpec := { name := "walkSteps", fn := fun _ => fun
  | [d1, d2, d3] => { results := [.lit (.bool false)], args := [d1, d2, d3] }
  | _ => none }
def WalkStepsWrongFalsely : Prop := walkStepsRow.holds Try.pinned (OpenSpec.ofChange walkStepsWrong)

/-- 'parquetrylaw09.WalkTrees': WHATEVER THE INPUT: true; the input reads as it did. -/
def walkTreesSpec : ChangeSpec := { name := "walkTrees", fn := fun _ => fun
  | [d1, d2, d3] => { results := [.lit (.bool true)], args := [d1, d2, d3] }
  | _ => none }
def walkTreesRow : OpenClaim := { program := "ythkocodajjapmaa", sum := "45bdeaa642c392995de9736c4a4bf15fc18e158780e0243367d4c4325cf56ee1", func := "parquetry/parquetrylaw09.WalkTrees", spec := "walkTrees", unfollowed := true, recurses := true, apart := false }
def WalkTreesSaid : Prop := walkTreesRow.holds Try.pinned (OpenSpec.ofChange walkTreesSpec)

/-- ITS FALSE NEIGHBOUR: 'it returns false'. Refute it at one input. -/
def walkTreesWrong : ChangeSpec := { name := "walkTrees", fn := fun _ => fun
  | [d1, d2, d3] => { results := [.lit (.bool false)], args := [d1, d2, d3] }
  | _ => none }
def WalkTreesWrongFalsely : Prop := walkTreesRow.holds Try.pinned (OpenSpec.ofChange walkTreesWrong)

/-- 'parquetrylaw09.WalkPlane': WHATEVER THE INPUT: true; the input reads as it did. -/
def walkPlaneSpec : ChangeSpec := { name := "walkPlane", fn := fun _ => fun
  | [d1, d2, d3] => { results := [.lit (.bool true)], args := [d1, d2, d3] }
  | _ => none }
def walkPlaneRow : OpenClaim := { program := "ythkocodajjapmaa", sum := "45bdeaa642c392995de9736c4a4bf15fc18e158780e0243367d4c4325cf56ee1", func := "parquetry/parquetrylaw09.WalkPlane", spec := "walkPlane", unfollowed := true, recurses := true, apart := false }
def WalkPlaneSaid : Prop := walkPlaneRow.holds Try.pinned (OpenSpec.ofChange walkPlaneSpec)

/-- ITS FALSE NEIGHBOUR: 'it returns false'. Refute it at one input. -/
def walkPlaneWrong : ChangeSpec := { name := "walkPlane", fn := fun _ => fun
  | [d1, d2, d3] => { results := [.lit (.bool false)], args := [d1, d2, d3] }
  | _ => none }
def WalkPlaneWrongFalsely : Prop := walkPlaneRow.holds Try.pinned (OpenSpec.ofChange walkPlaneWrong)

/-- 'parquetrylaw09.WalkRight': WHATEVER THE INPUT: true; the input reads as it did. -/
def walkRightSpec : ChangeSpec := { name := "walkRight", fn := fun _ => fun
  | [d1, d2, d3, d4, d5, d6] => { results := [.lit (.bool true)], args := [d1, d2, d3, d4, d5, d6] }
  | _ => none }
def walkRightRow : OpenClaim := { program := "ythkocodajjapmaa", sum := "45bdeaa642c392995de9736c4a4bf15fc18e158780e0243367d4c4325cf56ee1", func := "parquetry/parquetrylaw09.WalkRight", spec := "walkRight", unfollowed := true, recurses := true, apart := false }
def WalkRightSaid : Prop := walkRightRow.holds Try.pinned (OpenSpec.ofChange walkRightSpec)

/-- ITS FALSE NEIGHBOUR: 'it returns false'. Refute it at one input. -/
def walkRightWrong : ChangeSpec := { name := "walkRight", fn := fun _ => fun
  | [d1, d2, d3, d4, d5, d6] => { results := [.lit (.bool false)], args := [d1, d2, d3, d4, d5, d6] }
  | _ => none }
def WalkRightWrongFalsely : Prop := walkRightRow.holds Try.pinned (OpenSpec.ofChange walkRightWrong)

/-- 'parquetrylaw09.WalkSides': WHATEVER THE INPUT: true; the input reads as it did. -/
def walkSidesSpec : ChangeSpec := { name := "walkSides", fn := fun _ => fun
  | [d1, d2, d3, d4] => { results := [.lit (.bool true)], args := [d1, d2, d3, d4] }
  | _ => none }
def walkSidesRow : OpenClaim := { program := "ythkocodajjapmaa", sum := "45bdeaa642c392995de9736c4a4bf15fc18e158780e0243367d4c4325cf56ee1", func := "parquetry/parquetrylaw09.WalkSides", spec := "walkSides", unfollowed := true, recurses := true, apart := false }
def WalkSidesSaid : Prop := walkSidesRow.holds Try.pinned (OpenSpec.ofChange walkSidesSpec)

/-- ITS FALSE NEIGHBOUR: 'it returns false'. Refute it at one input. -/
def walkSidesWrong : ChangeSpec := { name := "walkSides", fn := fun _ => fun
  | [d1, d2, d3, d4] => { results := [.lit (.bool false)], args := [d1, d2, d3, d4] }
  | _ => none }
def WalkSidesWrongFalsely : Prop := walkSidesRow.holds Try.pinned (OpenSpec.ofChange walkSidesWrong)

/- THE SECOND FORM. 'bulk': how many values and letters a reading holds, each counted each time it is reached (what is shared counts as often as it is met; a slice's spare places count too). A statement '..UptoSaid' is the law's where the arguments, and the package variables that the reading takes, are together of bulk at most 1048576: NARROWER than '..Said'. Prove '..Said' where nothing that the law and all that it calls make is longer than what came in: it says more and counts as full. Else prove '..UptoSaid'. A law counts once. -/
mutual
def uptoBulk {H : Type} : DataW H → Nat
  | .lit (.string bytes) => bytes.length + 1
  | .lit _ => 1
  | .nil => 1
  | .ptr d => uptoBulk d + 1
  | .slice elems spare => uptoBulkAll elems + uptoBulkAll spare + 1
  | .agg parts => uptoBulkAll parts + 1
  | .iface _ d => uptoBulk d + 1
  | .map entries => uptoBulkEntries entries + 1
  | .held _ => 1
def uptoBulkAll {H : Type} : List (DataW H) → Nat
  | [] => 0
  | d :: r => uptoBulk d + uptoBulkAll r
def uptoBulkEntries {H : Type} : List (Lit × DataW H) → Nat
  | [] => 0
  | x :: r => uptoBulkEntry x + uptoBulkEntries r
def uptoBulkEntry {H : Type} : Lit × DataW H → Nat
  | (.string bytes, d) => bytes.length + uptoBulk d + 1
  | (_, d) => uptoBulk d + 1
 end
def uptoSmall : (H : Type) → List (DataW H) → Bool := fun _ ds => decide (uptoBulkAll ds ≤ 1048576)
def OpenSpec.upto (s : _root_.Go.ChangeSpec) : _root_.Go.OpenSpec := { _root_.Go.OpenSpec.ofChange s with cond := some uptoSmall }

/-- 'parquetrylaw09.WalkSteps', WHERE WHAT IT READS IS OF BULK AT MOST 1048576: true; the input reads as it did. -/
def walkStepsUptoRow : OpenClaim := { program := "ythkocodajjapmaa", sum := "45bdeaa642c392995de9736c4a4bf15fc18e158780e0243367d4c4325cf56ee1", func := "parquetry/parquetrylaw09.WalkSteps", spec := "walkSteps", unfollowed := true, recurses := true, apart := false, narrowed := true }
def WalkStepsUptoSaid : Prop := walkStepsUptoRow.holds Try.pinned (OpenSpec.upto walkStepsSpec)

/-- 'parquetrylaw09.WalkTrees', WHERE WHAT IT READS IS OF BULK AT MOST 1048576: true; the input reads as it did. -/
def walkTreesUptoRow : OpenClaim := { program := "ythkocodajjapmaa", sum := "45bdeaa642c392995de9736c4a4bf15fc18e158780e0243367d4c4325cf56ee1", func := "parquetry/parquetrylaw09.WalkTrees", spec := "walkTrees", unfollowed := true, recurses := true, apart := false, narrowed := true }
def WalkTreesUptoSaid : Prop := walkTreesUptoRow.holds Try.pinned (OpenSpec.upto walkTreesSpec)

/-- 'parquetrylaw09.WalkPlane', WHERE WHAT IT READS IS OF BULK AT MOST 1048576: true; the input reads as it did. -/
def walkPlaneUptoRow : OpenClaim := { program := "ythkocodajjapmaa", sum := "45bdeaa642c392995de9736c4a4bf15fc18e158780e0243367d4c4325cf56ee1", func := "parquetry/parquetrylaw09.WalkPlane", spec := "walkPlane", unfollowed := true, recurses := true, apart := false, narrowed := true }
def WalkPlaneUptoSaid : Prop := walkPlaneUptoRow.holds Try.pinned (OpenSpec.upto walkPlaneSpec)

/-- 'parquetrylaw09.WalkRight', WHERE WHAT IT READS IS OF BULK AT MOST 1048576: true; the input reads as it did. -/
def walkRightUptoRow : OpenClaim := { program := "ythkocodajjapmaa", sum := "45bdeaa642c392995de9736c4a4bf15fc18e158780e0243367d4c4325cf56ee1", func := "parquetry/parquetrylaw09.WalkRight", spec := "walkRight", unfollowed := true, recurses := true, apart := false, narrowed := true }
def WalkRightUptoSaid : Prop := walkRightUptoRow.holds Try.pinned (OpenSpec.upto walkRightSpec)

/-- 'parquetrylaw09.WalkSides', WHERE WHAT IT READS IS OF BULK AT MOST 1048576: true; the input reads as it did. -/
def walkSidesUptoRow : OpenClaim := { program := "ythkocodajjapmaa", sum := "45bdeaa642c392995de9736c4a4bf15fc18e158780e0243367d4c4325cf56ee1", func := "parquetry/parquetrylaw09.WalkSides", spec := "walkSides", unfollowed := true, recurses := true, apart := false, narrowed := true }
def WalkSidesUptoSaid : Prop := walkSidesUptoRow.holds Try.pinned (OpenSpec.upto walkSidesSpec)

end Rows
end Go.Proofs.Ythkocodajjapmaa
