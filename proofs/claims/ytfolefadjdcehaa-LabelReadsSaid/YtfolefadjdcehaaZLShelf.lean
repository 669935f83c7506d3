/- math/bits.Len64 off the shelf, laid at this program; math/bits.Len. -/
import Derived.Test.YtfolefadjdcehaaProg
import Derived.Test.YtfolefadjdcehaaZg2
import Derived.Shelf.Strconv.Itoa0
namespace Go.Proofs.Ytfolefadjdcehaa
open Go.Shelf
open Go.RowKit
set_option linter.unusedVariables false
def ln_ren : Go.Shelf.Ren := ⟨fun | 129 => 68 | n => n, fun | 3 => 3 | 4 => 4 | 5 => 5 | 9 => 9 | 46 => 47 | 53 => 72 | n => n, fun | n => n⟩
theorem ln129 : Lays.n129 Try.prog ln_ren := {
  mixed := by kernel_rfl
  f129 := Try.func68.trans (congrArg some (by kernel_rfl))
  t3 := Try.underlying3
  a3 := Try.isAgg3
  z3 := Try.sizeOf3
  v3 := Try.zeroValue3
  t4 := Try.underlying4
  a4 := Try.isAgg4
  z4 := Try.sizeOf4
  v4 := Try.zeroValue4
  t5 := Try.underlying5
  a5 := Try.isAgg5
  z5 := Try.sizeOf5
  v5 := Try.zeroValue5
  t9 := Try.underlying9
  a9 := Try.isAgg9
  z9 := Try.sizeOf9
  v9 := Try.zeroValue9
  t46 := Try.underlying47
  a46 := Try.isAgg47
  z46 := Try.sizeOf47
  v46 := Try.zeroValue47
  t53 := Try.underlying72
  a53 := Try.isAgg72
  z53 := Try.sizeOf72
  v53 := Try.zeroValue72 }
theorem len64_p (x : Int) (w : World) (h0 : 0 ≤ x) (h1 : x ≤ 18446744073709551615) :
    Calls Try.prog 68 #[.int .u64 x] w fun e w' => e = .returned (.int .i64 (Lib.bitLen x.toNat)) ∧ w' = w :=
  Any.bits_Len64 ln129 x w h0 h1
theorem len_u (x : Int) (w : World) (h0 : 0 ≤ x) (h1 : x ≤ 18446744073709551615) :
    Calls Try.prog 52 #[.int .u64 x] w fun e w' => e = .returned (.int .i64 (Lib.bitLen x.toNat)) ∧ w' = w := by
  have LN := Lib.hid (fun W => len64_p x W h0 h1)
  go_enter Try.func52, Try.ntmps52
  go_wp2_with fail
  refine (LN.out _).mono ?_
  rintro e w1 ⟨rfl, rfl⟩
  go_wp2_with fail
  go_ret
  exact ⟨rfl, rfl⟩
end Go.Proofs.Ytfolefadjdcehaa
