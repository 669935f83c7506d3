/- math/bits.Len64 off the shelf, laid at this program. -/
import Derived.Test.YtcefohjddbjcjaaProg
import Derived.Test.YtcefohjddbjcjaaZBits
import Derived.Shelf.Strconv.Itoa0
namespace Go.Proofs.Ytcefohjddbjcjaa
open Go.Shelf
open Go.RowKit
set_option linter.unusedVariables false
def pln_ren : Go.Shelf.Ren := ⟨fun | 129 => 24 | n => n, fun | 3 => 3 | 4 => 4 | 5 => 5 | 9 => 9 | 46 => 52 | 53 => 22 | n => n, fun | n => n⟩
theorem pln129 : Lays.n129 Try.prog pln_ren := {
  mixed := by kernel_rfl
  f129 := Try.func24.trans (congrArg some (by kernel_rfl))
  t3 := Try.underlying3
  a3 := Try.isAgg3
  z3 := Try.sizeOf3
  v3 := Try.zeroValue3
  t4 := Try.underlying4
  a4 := Try.isAgg4
  z4 := Try.sizeOf4
  v4 := Try.zeroValue4
  t5 := Try.underlying5
  a5 := Try.isAgg5
  z5 := Try.sizeOf5
  v5 := Try.zeroValue5
  t9 := Try.underlying9
  a9 := Try.isAgg9
  z9 := Try.sizeOf9
  v9 := Try.zeroValue9
  t46 := Try.underlying52
  a46 := Try.isAgg52
  z46 := Try.sizeOf52
  v46 := Try.zeroValue52
  t53 := Try.underlying22
  a53 := Try.isAgg22
  z53 := Try.sizeOf22
  v53 := Try.zeroValue22 }
theorem len64_p (x : Int) (w : World) (h0 : 0 ≤ x) (h1 : x ≤ 18446744073709551615) :
    Calls Try.prog 24 #[.int .u64 x] w fun e w' => e = .returned (.int .i64 (Lib.bitLen x.toNat)) ∧ w' = w :=
  Any.bits_Len64 pln129 x w h0 h1
end Go.Proofs.Ytcefohjddbjcjaa
