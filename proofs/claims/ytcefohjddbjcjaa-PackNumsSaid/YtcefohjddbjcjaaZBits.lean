/- The small calls of bits. -/
import Derived.Test.YtcefohjddbjcjaaZBMath
import Derived.Test.YtcefohjddbjcjaaZBase
import Derived.Test.YtcefohjddbjcjaaProg
import Derived.WalkKit
namespace Go.Proofs.Ytcefohjddbjcjaa
open Go.RowKit
set_option linter.unusedVariables false

/-- As a count of a number's bits. -/
def cnt64 (k : Int) : Nat := if k ≤ 0 then 0 else if 64 ≤ k then 64 else k.toNat
theorem count_p (k : Int) (w : World) (h : -9223372036854775808 ≤ k ∧ k ≤ 9223372036854775807) :
    Calls Try.prog 43 #[.int .i64 k] w fun e w' => e = .returned (.int .i64 (cnt64 k : Int)) ∧ w = w' := by
  obtain ⟨m, hm, hm0⟩ : ∃ m : Int, (∀ w, (Builtin.max_ #[3, 3] 3 #[.int .i64 k, .int .i64 0]).run Try.prog w = .ok (.int .i64 m) w) ∧ m = (if k ≤ 0 then 0 else k) :=
    ⟨if k ≤ 0 then 0 else k, fun w => by simp [Builtin.max_, Builtin.max2]; split <;> split <;> omega, rfl⟩
  have hmn : ∀ w, (Builtin.min_ #[3, 3] 3 #[.int .i64 m, .int .i64 64]).run Try.prog w = .ok (.int .i64 ((cnt64 k : Nat) : Int)) w := fun w => by
    simp [Builtin.min_, Builtin.min2, cnt64]
    repeat' split
    all_goals (first | rfl | omega | (subst hm0; repeat' split at * <;> omega) | (simp_all; omega))
  generalize cnt64 k = c at *
  clear hm0
  go_enter Try.func43, Try.ntmps43
  go_wp2
  go_ret
  exact ⟨rfl, rfl⟩
theorem low_eq : ∀ k : Nat, k < 65 → (18446744073709551615 : Int) / 2 ^ (64 - k) = ((2 ^ k - 1 : Nat) : Int) := by decide +kernel
theorem low_p (k : Nat) (w : World) (h : k ≤ 64) :
    Calls Try.prog 40 #[.int .i64 (k : Int)] w fun e w' => e = .returned (.int .u64 ((2 ^ k - 1 : Nat) : Int)) ∧ w = w' := by
  go_enter Try.func40, Try.ntmps40
  go_wp2
  go_ret
  exact ⟨congrArg (fun x => Ending.returned (.int .u64 x)) (low_eq k (by omega)), rfl⟩
end Go.Proofs.Ytcefohjddbjcjaa
