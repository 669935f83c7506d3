/- A field of a struct's value. -/
import Derived.Test.YthbhbcakiaaapaaDNew
namespace Go.Proofs.Ythbhbcakiaaapaa
set_option maxRecDepth 20000
open Go.RowKit
set_option linter.unusedVariables false
theorem fld0 (a b c : Value) (W : World) : (Instr.field 62 (.agg #[a, b, c]) 0).run Try.prog W = .ok a W := by
  simp [Instr.field, run_underlying Try.underlying62, run_underlying Try.underlying40, asAgg, part, isAgg]
theorem fld2 (a b c : Value) (W : World) : (Instr.field 62 (.agg #[a, b, c]) 2).run Try.prog W = .ok c W := by
  simp [Instr.field, run_underlying Try.underlying62, run_underlying Try.underlying25, asAgg, part, isAgg]
end Go.Proofs.Ythbhbcakiaaapaa
