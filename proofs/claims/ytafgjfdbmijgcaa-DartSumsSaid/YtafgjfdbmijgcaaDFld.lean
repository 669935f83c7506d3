/- A field of a struct's value. -/
import Derived.Test.YtafgjfdbmijgcaaDNew
namespace Go.Proofs.Ytafgjfdbmijgcaa
open Go.RowKit
set_option linter.unusedVariables false
theorem fld0 (a b c : Value) (W : World) : (Instr.field 57 (.agg #[a, b, c]) 0).run Try.prog W = .ok a W := by
  simp [Instr.field, run_underlying Try.underlying57, run_underlying Try.underlying50, asAgg, part, isAgg]
theorem fld2 (a b c : Value) (W : World) : (Instr.field 57 (.agg #[a, b, c]) 2).run Try.prog W = .ok c W := by
  simp [Instr.field, run_underlying Try.underlying57, run_underlying Try.underlying22, asAgg, part, isAgg]
end Go.Proofs.Ytafgjfdbmijgcaa
